/-
  What has and Has answer.
-/
import Derived.Test.YtldmimekmjmkgaaDoorFl
namespace Go.Proofs.YtldmimekmjmkgaaDoor
open Go.RowKit Go.Sort Go.Maps Go.WideMaps

theorem gath_ex {nx : List Nat} {m : Nat} (hs : ∀ q, nx.getD q 0 < 4294967296) (hm : m < 4294967296) : ∃ r, Gathered nx m r := by
  have key : ∀ (n p r : Nat), p ≤ n → Beh nx m p r → ∃ r, Gathered nx m r := by
    intro n
    induction n with
    | zero => intro p r hp h; obtain rfl : p = 0 := by omega
              exact ⟨r, h.last⟩
    | succ n ih =>
      intro p r hp h
      by_cases h0 : p = 0
      · subst h0; exact ⟨r, h.last⟩
      · have := (low_bit h0 h.plt).2.2.1
        exact ih _ _ (by omega) (h.next h0 (hs _))
  exact key m m 0 (Nat.le_refl _) (Beh.first hm)
theorem gath_one {nx : List Nat} {m r s : Nat} (hr : Gathered nx m r) (hs : Gathered nx m s) : r = s :=
  Nat.eq_of_testBit_eq fun i => Bool.eq_iff_iff.2 ((hr.2 i).trans (hs.2 i).symm)
theorem bits_nm {names : List ByteArray} {s : ByteArray} {c : Nat} (h : BitsAt names s c) (x : Nat) (_ : 0 ≤ x) (hx : x < 0 + names.length) : c.testBit x = true ↔ nmAt names 0 x = s := by
  have hx' : x < names.length := by omega
  rw [h.2]
  unfold nmAt
  rw [Nat.sub_zero, List.getD_eq_getElem?_getD, List.getElem?_eq_getElem hx', Option.getD_some]
  exact ⟨fun h => Option.some.inj h, fun h => congrArg some h⟩

theorem below_drewN {B : Nat} {w w' : World} (h : Below B w w') (n : Nat) : Below B w (w'.drewN n) := ⟨h.os, h.tape, h.output, h.size, h.block⟩
def HasPost (w : World) (a : Pl) (word : List ByteArray) (e : Ending) (w' : World) : Prop := (∃ r : Bool, e = .returned (.bool r) ∧ (r = true ↔ ∃ p, Way a p ∧ p.map (nmAt a.names 0) = word)) ∧ Below w.heap.size w w'

set_option maxHeartbeats 4000000 in
theorem has_any (B M bm : Nat) (v : Value) (nx : List Nat) (R : List (Nat × Nat)) (a : Pl) (f l : Nat) (b : Bool) (S : Nat → Prop) (A : Option Addr) (n c : Nat) (word : List ByteArray) (w : World) (ha : At a 0) (he : Ends f l b a) (hM : Mn w B M bm v a.names nx) (hln : nx.length = a.names.length) (hN : Nx nx R) (hR : ∀ x, x ∈ R ↔ x ∈ a.fol)
    (hT : TabB w) (hw : Strs w S (.slice A n c) word) (hws : ∀ s ∈ word, s.size ≤ maxLen) :
    Calls Tryd.prog 37 #[.pointer (some ⟨M, 0, none⟩), .agg #[.int .u32 (f : Int), .int .u32 (l : Int), .bool b], .slice A n c] w (HasPost w a word) := by
  obtain ⟨A', c', hv, hc', hm, hcells⟩ := hw
  injection hv with hA hn hcc
  subst hA hn hcc
  unfold maxLen at hm
  have HM := Lib.hid hM
  have HT := Lib.hid hT
  have HNX := Lib.hid hN
  have HE := Lib.hid he
  have HCE := Lib.hid hcells
  have HST : Hid (Alg a (nmAt a.names 0) [] f b) := Lib.hid (alg_first he)
  have HB1 : Hid (Below w.heap.size w (w.alloc (.cells #[.int .u32 (f : Int), .int .u32 (l : Int), .bool b] 71))) := Lib.hid ((Below.refl _ _).alloc (Nat.le_refl _) _)
  have hfl := he.first.1
  have hll := he.last.1
  clear hM hT hN he hcells
  go_enter Tryd.func37, Tryd.ntmps37
  go_wp2
  go_quiet (fail)
  go_wp2
  go_loopw [7, 8, 18] (fun u1 u2 i wr => ∃ (k may : Nat) (ended : Bool), k ≤ word.length ∧ u1 = .int .u32 (may : Int) ∧ u2 = .bool ended ∧ i = .int .i64 k ∧ Below w.heap.size w wr ∧ Hid (wr.heap[w.heap.size]? = some (.cells #[.int .u32 (f : Int), .int .u32 (l : Int), .bool b] 71)) ∧ may < 4294967296 ∧ Hid (Alg a (nmAt a.names 0) (word.take k) may ended)) (fun _ _ i _ => word.length - (intOf i).toNat)
  case atStart =>
    exact ⟨0, f, b, Nat.zero_le _, rfl, rfl, rfl, below_drewN HB1.out _, Lib.hid (heap_new w _), hfl, HST⟩
  case round =>
    obtain ⟨k, may, ended, hk, rfl, rfl, rfl, hbr, hbx, hmay, halg⟩ := hrel
    have HBR := Lib.hid hbr
    have HMR := Lib.hid (HM.out.below hbr)
    have hMl := HMR.out.mlt
    have hbl := cell_lt (w := wr) (g := w.heap.size) (o := 0) (v := .int .u32 (f : Int)) (three_cells hbx.out).1
    by_cases hlt : k < word.length
    · have hlx : word[k]? = some word[k] := List.getElem?_eq_getElem hlt
      generalize hx : word[k] = s at *
      have HTK : Hid (word.take (k + 1) = word.take k ++ [s]) := Lib.hid (by rw [List.take_add_one, hlx]; rfl)
      have HDR : Hid (word = word.take k ++ s :: word.drop (k + 1)) := Lib.hid (by
        conv => lhs; rw [← List.take_append_drop k word]
        rw [List.drop_eq_getElem?_toList_append, hlx]; rfl)
      have hsz := hws s (List.mem_of_getElem? hlx)
      rcases HCE.out with h0 | ⟨bw, ow, rfl, hSb, hcell⟩
      · rw [h0] at hlt; cases hlt
      have hcw := cell_kept (hcell k s hlx) hbr
      have hbwl := cell_lt hcw
      clear hcell hSb
      obtain ⟨cc, hrun, hbits⟩ := HMR.out.map.look s hsz
      have m0 := HMR.out.cell0
      have hcl := hbits.1
      have HH := Lib.hid (alg_here ha halg.out (bits_nm hbits))
      have HQB : Hid (∀ q, (may &&& cc).testBit q = true → q < nx.length) := Lib.hid fun q hq => by
        rw [Nat.testBit_and, Bool.and_eq_true] at hq
        have h1 := (List.getElem?_eq_some_iff.1 ((hbits.2 q).1 hq.2)).1
        omega
      have ea : bits .and .u32 (may : Int) (cc : Int) = ((may &&& cc : Nat) : Int) := u32_and_nat _ _ hmay hcl
      have hhl : may &&& cc < 4294967296 := Nat.lt_of_le_of_lt Nat.and_le_left hmay
      clear hbits hx hlx halg
      generalize may &&& cc = here at *
      by_cases h0 : here = 0
      · subst h0
        have HNO := Lib.hid (alg_none HH.out (word.drop (k + 1)))
        go_wp2
        go_ret
        exact ⟨⟨false, rfl, ⟨fun h => (by cases h), fun h => absurd (by rw [← HDR.out]; exact h) HNO.out⟩⟩, HBR.out⟩
      · have e0 : ((here : Int) == 0) = false := by simp; omega
        obtain ⟨r, hr⟩ := gath_ex (m := here) HNX.out.1 hhl
        have HNXT := Lib.hid (alg_next HH.out HE.out HNX.out hR hr)
        have hrl := hr.1
        have HC := Lib.hid (regrown_any (w := wr) fun W hW => (behind_any B M bm v a.names nx here W (HMR.out.below hW) ((HT.out.below hbr).below hW) hhl HNX.out.1 HQB.out).mono fun e w' h => ⟨by obtain ⟨⟨r', h1, h2⟩, _⟩ := h; rw [h1, gath_one h2 hr], h.2⟩)
        have el : bits .and .u32 (here : Int) (l : Int) = ((here &&& l : Nat) : Int) := u32_and_nat _ _ hhl hll
        obtain ⟨b0, b1, b2⟩ := three_cells hbx.out
        have en : (((here &&& l : Nat) : Int) != 0) = decide (here &&& l ≠ 0) := by
          by_cases h : here &&& l = 0
          · rw [h]; rfl
          · rw [decide_eq_true h]; simp; omega
        generalize decide (here &&& l ≠ 0) = t at *
        generalize here &&& l = hl at *
        go_wp2
        have k1 := cell_regrown b1
        refine wp_region_quiet_below (by kernel_rfl) (by kernel_rfl) ?_
        repeat (first | go_big_quiet_step (exact HC.out _ _) | quiet_step (exact HC.out _ _))
        refine wpQuiet_nil ?_
        intro _ hw'
        obtain ⟨⟨dq, osq⟩, hw''⟩ := hw'
        subst hw''
        have hbq := below_regrown wr dq osq
        have HBN := Lib.hid (hbr.trans (hbq.mono hbr.size))
        have HBXN : Hid ((grow (redrawn wr dq) osq).heap[w.heap.size]? = some (.cells #[.int .u32 (f : Int), .int .u32 (l : Int), .bool b] 71)) := Lib.hid ((hbq.block _ hbl).trans hbx.out)
        clear k1 b0 b1 b2 hbq
        generalize grow (redrawn wr dq) osq = wn at *
        go_wp2
        exact ⟨⟨k + 1, r, t, by omega, rfl, rfl, by go_num, HBN.out, HBXN, hrl, by rw [HTK.out]; exact HNXT⟩, by simp [intOf]; omega⟩
    · have HE2 : Hid (ended = true ↔ ∃ p, Way a p ∧ p.map (nmAt a.names 0) = word) := Lib.hid (by have h := halg.out.ended; rwa [List.take_of_length_le (by omega)] at h)
      go_wp2
      go_ret
      exact ⟨⟨ended, rfl, HE2.out⟩, HBR.out⟩

def HasE (w : World) (e : Ex) (word : List ByteArray) (x : Ending) (w' : World) : Prop := (∃ r : Bool, x = .returned (.bool r) ∧ (r = true ↔ rightE okN e = true ∧ lang e word)) ∧ Below w.heap.size w w'
theorem TabB.lt {w : World} (h : TabB w) : 0 < w.heap.size := cell_lt (h 0 (by decide))

set_option maxHeartbeats 4000000 in
theorem hasE_any (e : Ex) (A : Option Addr) (n c : Nat) (vw : Value) (word : List ByteArray) (w : World) (he : e.fits) (hl : Exs w (Under w.heap.size) (.slice A n c) e.kids) (hT : TabB w) (hw : Strs w (Under w.heap.size) vw word) (hws : ∀ s ∈ word, s.size ≤ maxLen) :
    Calls Tryd.prog 24 #[.agg #[.int .u8 e.op, .string e.name, .slice A n c], vw] w (HasE w e word) := by
  obtain ⟨Aw, cw, rfl, hcw⟩ := (show ∃ A c, vw = .slice A word.length c ∧ word.length ≤ c from by obtain ⟨A, c, h, h2, _⟩ := hw; exact ⟨A, c, h, h2⟩)
  have hmm := @run_makeMap Tryd.prog
  have HA := Lib.hid hl
  have HT := Lib.hid hT
  have HW := Lib.hid hw
  have HG := Lib.hid hT.lt
  have HB : Hid (Below w.heap.size w (w.alloc (.cells #[.int .u8 e.op, .string e.name, .slice A n c] 24))) := Lib.hid ((Below.refl _ _).alloc (Nat.le_refl _) _)
  have HBX : Hid ((w.alloc (.cells #[.int .u8 e.op, .string e.name, .slice A n c] 24)).heap[w.heap.size]? = some (.cells #[.int .u8 e.op, .string e.name, .slice A n c] 24)) := Lib.hid (heap_new _ _)
  clear hl hT hw
  go_enter Tryd.func24, Tryd.ntmps24
  go_wp2_with fail
  generalize w.alloc (.cells #[.int .u8 e.op, .string e.name, .slice A n c] 24) = W1 at *
  have hz1 : w.heap.size < W1.heap.size := (Array.getElem?_eq_some_iff.1 HBX.out).1
  refine (right_ok e A n c W1 he ((HA.out.below HB.out).more HB.out.size)).mono ?_
  rintro x w2 ⟨rfl, hb2⟩
  have HB2 := Lib.hid (HB.out.trans (hb2.mono HB.out.size))
  have HBX2 := Lib.hid ((hb2.block _ hz1).trans HBX.out)
  have hz2 : w.heap.size < w2.heap.size := (Array.getElem?_eq_some_iff.1 HBX2.out).1
  clear hb2 HB HBX hz1
  generalize hr : rightE okN e = r at *
  have HRE := Lib.hid hr
  clear hr
  cases r with
  | false =>
    go_wp2
    go_ret
    exact ⟨⟨false, rfl, ⟨fun h => (by cases h), fun h => by rw [HRE.out] at h; cases h.1⟩⟩, HB2.out⟩
  | true =>
    obtain ⟨k0, k1, k2⟩ := three_cells HBX2.out
    go_wp2_with fail
    have HB3 : Hid (Below w2.heap.size w2 ((w2.alloc (.map #[] 0)).alloc (.cells #[.map (some w2.heap.size), .slice none 0 0] 67))) := Lib.hid (((Below.refl _ _).alloc (Nat.le_refl _) _).alloc (by simp) _)
    have HMN : Hid (Mn ((w2.alloc (.map #[] 0)).alloc (.cells #[.map (some w2.heap.size), .slice none 0 0] 67)) w.heap.size (w2.heap.size + 1) w2.heap.size (.slice none 0 0) [] []) := Lib.hid
      ⟨heap_new' _ _ (by simp), (mapAt_made w2).keep (Below.heap_alloc _ _ _ (by simp)), World.ownsRow_nil _ _ _ _, by omega, by omega, by omega, by simp [Value.ownBlock], by simp [Value.ownBlock]⟩
    have HB4 := Lib.hid (HB2.out.trans (HB3.out.mono HB2.out.size))
    generalize (w2.alloc (.map #[] 0)).alloc (.cells #[.map (some w2.heap.size), .slice none 0 0] 67) = W4 at *
    have hrt := HRE.out
    unfold rightE at hrt
    rw [Bool.and_eq_true, decide_eq_true_iff] at hrt
    have hnm := names_size e 0
    clear HB3 k0 k1 k2
    refine (add_walk e w.heap.size (w2.heap.size + 1) w2.heap.size (.slice none 0 0) [] [] [] W4 A n c he hrt.1 ((HA.out.below HB4.out)) HMN.out rfl nx_nil (HT.out.below HB4.out) HG.out HB4.out.size (by simp only [List.length_nil]; omega)).mono ?_
    rintro x w5 ⟨f, g, b, v', nx, rfl, he5, hm5, hl5, hn5, hg5⟩
    simp only [List.length_nil, List.nil_append, Nat.zero_add] at he5 hm5 hl5 hn5
    have HB5 := Lib.hid (HB4.out.trans (hg5.below HMN.out HB4.out.size))
    have HE5 := Lib.hid he5
    have HM5 := Lib.hid hm5
    have HL5 := Lib.hid hl5
    have HN5 := Lib.hid hn5
    have HME := Lib.hid (place_means e 0)
    clear he5 hm5 hl5 hn5 hg5 hnm hrt
    go_wp2_with fail
    refine (has_any w.heap.size (w2.heap.size + 1) w2.heap.size v' nx (place e 0).fol (place e 0) f g b (Under w.heap.size) Aw _ cw word w5 HME.out.1 HE5.out HM5.out HL5.out HN5.out (fun _ => Iff.rfl) (HT.out.below HB5.out) (HW.out.below HB5.out) hws).mono ?_
    rintro x w6 ⟨⟨r, rfl, hr⟩, hb6⟩
    have HR := Lib.hid hr
    have HB6 := Lib.hid (HB5.out.trans (hb6.mono HB5.out.size))
    clear hr hb6
    go_wp2
    go_ret
    exact ⟨⟨r, rfl, HR.out.trans ((HME.out.2 word).symm.trans ⟨fun h => ⟨HRE.out, h⟩, fun h => h.2⟩)⟩, HB6.out⟩
end Go.Proofs.YtldmimekmjmkgaaDoor
