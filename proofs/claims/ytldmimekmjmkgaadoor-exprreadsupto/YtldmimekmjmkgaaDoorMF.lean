/-
  The document's cut: what it answers.
  The document's write: of a right expression it answers how that is written.
  The document's read: what it answers.
  The document's Print and Parse: what they answer.
  Where rows may end that begin at some places: as sets of places (plain: no program's function is named here).
  Rows of truth values; the document's either.
  The document's ends: where rows may end.
  The document's Has, and the law's same: what they answer.
-/
import Derived.Test.YtldmimekmjmkgaaDoorMA
import Derived.Test.YtldmimekmjmkgaaDoorMD
import Derived.Test.YtldmimekmjmkgaaDoorME
import Derived.Laws.BytesString
import Derived.Deep.DrawnRows
import Derived.Test.YtldmimekmjmkgaaDoorGe
import Derived.Test.YtldmimekmjmkgaaDoorEg
import Derived.Test.YtldmimekmjmkgaaDoorFn
import Derived.OwnWalk
namespace Go.Proofs.YtldmimekmjmkgaaDoor
open Go.RowKit Go.Sort Go.Maps Go.WideMaps

/-- A text of so many bytes. -/
def bA (l : List UInt8) : ByteArray := ⟨l.toArray⟩
theorem bA_list (l : List UInt8) : (bA l).data.toList = l := rfl
theorem bA_back (s : ByteArray) : bA s.data.toList = s := rfl
theorem ext_mid (S : ByteArray) (i j : Nat) : S.extract i j = bA ((S.data.toList.drop i).take (j - i)) := by
  refine ByteArray.ext (Array.ext' ?_)
  rw [ByteArray.data_extract, Array.toList_extract]
  simp only [List.extract, bA]
/-- Where cut's loop stands: i bytes are looked at, what is not cut yet begins at f. -/
structure CutS (g : UInt8) (L : List UInt8) (i f : Nat) (o : Int) (outs : List ByteArray) : Prop where
  eq : (cutP g L 0 []).map bA = outs ++ (cutP g (L.drop i) o ((L.drop f).take (i - f))).map bA
  le : f ≤ i
  len : outs.length ≤ i
  lo : -(i : Int) ≤ o
  hi : o ≤ i
theorem CutS.start (g : UInt8) (L : List UInt8) : CutS g L 0 0 0 [] := ⟨by simp, Nat.le_refl _, Nat.le_refl _, by simp, by simp⟩
theorem cutS_list {L : List UInt8} {i f : Nat} {c : UInt8} (hf : f ≤ i) (hc : L[i]? = some c) : (L.drop f).take (i - f) ++ [c] = (L.drop f).take (i + 1 - f) := by
  have h : (L.drop f)[i - f]? = some c := by rw [List.getElem?_drop, show f + (i - f) = i by omega]; exact hc
  rw [show i + 1 - f = (i - f) + 1 by omega, List.take_add_one, h]; rfl
theorem drop_one {L : List UInt8} {i : Nat} {c : UInt8} (hc : L[i]? = some c) : L.drop i = c :: L.drop (i + 1) := by
  obtain ⟨h, rfl⟩ := List.getElem?_eq_some_iff.1 hc
  exact List.drop_eq_getElem_cons h
theorem lvl_near (o : Int) (c : UInt8) : o - 1 ≤ lvl o c ∧ lvl o c ≤ o + 1 := by unfold lvl; split <;> split <;> omega
theorem CutS.pass {g : UInt8} {L : List UInt8} {i f : Nat} {o o' : Int} {outs : List ByteArray} {c : UInt8} (h : CutS g L i f o outs) (hc : L[i]? = some c) (ho : o' = lvl o c) (hn : ¬ (c = g ∧ o' = 0)) : CutS g L (i + 1) f o' outs := by
  have h1 := lvl_near o c
  have h2 := h.lo
  have h3 := h.hi
  subst ho
  refine ⟨?_, Nat.le_succ_of_le h.le, Nat.le_succ_of_le h.len, by omega, by omega⟩
  rw [h.eq, drop_one hc, cutP, if_neg hn, cutS_list h.le hc]
theorem CutS.cut {g : UInt8} {L : List UInt8} {i f : Nat} {o o' : Int} {outs : List ByteArray} {c : UInt8} (h : CutS g L i f o outs) (hc : L[i]? = some c) (ho : o' = lvl o c) (hn : c = g ∧ o' = 0) : CutS g L (i + 1) (i + 1) o' (outs ++ [bA ((L.drop f).take (i - f))]) := by
  have h1 := lvl_near o c
  have h2 := h.lo
  have h3 := h.hi
  have h4 := h.len
  subst ho
  refine ⟨?_, Nat.le_refl _, by rw [List.length_append]; simp; omega, by omega, by omega⟩
  rw [h.eq, drop_one hc, cutP, if_pos hn, Nat.sub_self, List.take_zero, List.map_cons, List.append_assoc]
  rfl
theorem CutS.done {g : UInt8} {L : List UInt8} {i f : Nat} {o : Int} {outs : List ByteArray} (h : CutS g L i f o outs) (hi : i = L.length) : (cutP g L 0 []).map bA = outs ++ [bA (L.drop f)] := by
  have h1 := h.le
  rw [h.eq, hi, List.drop_length, cutP, List.take_of_length_le (by rw [List.length_drop]; omega)]
  rfl

theorem srowB {wo wr w5 : World} {x : ByteArray} {v : Value} {l : List ByteArray} (h : Below wo.heap.size wo wr) (hr : SRowE wr wo.heap.size v l) (hg : (wr.alloc (.cells #[.string x] 9)).grownBy w5 v.ownBlock) : Below wo.heap.size wo w5 :=
  below_grown (h.alloc h.size _) hg (fun k hk => (World.ownsRow.lt hr k hk).1) (by have := h.size; simp; omega)
theorem strsN {W : World} {S : Nat → Prop} {v : Value} {l : List ByteArray} (h : Strs W S v l) : ∃ A n c, v = .slice A n c ∧ l.length = n ∧ n ≤ c ∧ c ≤ maxLen := by
  obtain ⟨A, c, hv, h1, h2, _⟩ := h
  exact ⟨A, l.length, c, hv, rfl, h1, h2⟩

set_option maxRecDepth 100000 in
set_option maxHeartbeats 4000000 in
theorem rcut_any (s : ByteArray) (g : UInt8) (w : World) (hs : s.size ≤ 1000) :
    Calls Tryd.prog 56 #[.string s, .int .u8 (g.toNat : Int)] w fun x w' => ∃ v, x = .returned v ∧ SRowE w' w.heap.size v ((cutP g s.data.toList 0 []).map bA) ∧ Below w.heap.size w w' := by
  have HL : Hid (s.data.toList.length = s.size) := Lib.hid (list_size s)
  go_enter Tryd.func56, Tryd.ntmps56
  go_wp2
  go_loopg [5, 6, 7, 8] s.size (fun gg v q u z wx => ∃ (i f : Nat) (o : Int) (outs : List ByteArray) (Ak : Option Addr) (nk ck : Nat), v = .slice Ak nk ck ∧ q = .int .i64 o ∧ u = .int .i64 f ∧ z = .int .i64 i ∧ i + gg = s.size ∧ f ≤ i ∧ -(i : Int) ≤ o ∧ o ≤ i ∧ Hid (CutS g s.data.toList i f o outs) ∧ Hid (SRowE wx w.heap.size (.slice Ak nk ck) outs) ∧ Hid (Below w.heap.size w wx))
  case atStart => exact ⟨0, 0, 0, [], none, 0, 0, rfl, rfl, rfl, rfl, by omega, by omega, by omega, by omega, Lib.hid (CutS.start _ _), Lib.hid (World.ownsRow_nil _ _ _ _), Lib.hid (Below.refl _ _)⟩
  case round =>
    obtain ⟨i, f, o, outs, Ak, nk, ck, rfl, rfl, rfl, rfl, hig, hfi, hlo, hhi, HC, HR, HB⟩ := hrel
    have HLN : Hid (outs.length + 1 ≤ 1000000) := Lib.hid (by have := HC.out.len; omega)
    by_cases hi : i < s.size
    · have HG : Hid (s.data.toList[i]? = some s[i]) := Lib.hid (by rw [List.getElem?_eq_getElem (by rw [HL.out]; exact hi)]; rfl)
      obtain ⟨gg, rfl⟩ : ∃ g, gk = g + 1 := ⟨gk - 1, by omega⟩
      obtain ⟨cc, hcc⟩ : ∃ cc, s[i] = cc := ⟨_, rfl⟩
      have HCC := Lib.hid hcc
      rw [hcc] at HG
      clear hcc
      have HEX : Hid (s.extract f i = bA ((s.data.toList.drop f).take (i - f))) := Lib.hid (ext_mid s f i)
      have HLV : Hid (∀ o', o' = lvl o cc → (¬ (cc = g ∧ o' = 0) → CutS g s.data.toList (i + 1) f o' outs) ∧ (cc = g ∧ o' = 0 → CutS g s.data.toList (i + 1) (i + 1) o' (outs ++ [s.extract f i]))) := Lib.hid fun o' ho' => ⟨fun hn => HC.out.pass HG.out ho' hn, fun hn => by rw [HEX.out]; exact HC.out.cut HG.out ho' hn⟩
      by_cases h40 : cc = 40
      · have q40 : ((s[i].toNat : Int) == 40) = true := by rw [HCC.out, h40]; rfl
        have q41 : ((s[i].toNat : Int) == 41) = false := by rw [HCC.out, h40]; rfl
        have HO : Hid (o + 1 = lvl o cc) := Lib.hid (by rw [h40]; unfold lvl; rw [if_pos rfl, if_neg (by decide)]; omega)
        clear h40
        by_cases hcg : cc = g
        · have qg : ((s[i].toNat : Int) == (g.toNat : Int)) = true := by rw [HCC.out, hcg]; simp
          have HCG := Lib.hid hcg
          clear hcg
          by_cases h0 : o + 1 = 0
          · have HCUT := Lib.hid ((HLV.out _ HO.out).2 ⟨HCG.out, h0⟩)
            go_wp2_with (first
              | (at_builtin; refine wpList_append_strsE rfl (.tmp 36) (.tmp 41) rfl w.heap.size (Under ((wr.alloc (.cells #[.string (s.extract f i)] 9)).heap.size)) (.slice Ak nk ck) (.slice (some ⟨wr.heap.size, 0, none⟩) 1 1) outs [s.extract f i] rfl rfl (World.ownsRow.alloc HR.out _) (strs_one (heap_new _ _) (by show _ < _; simp)) HLN.out (by have := HB.out.size; simp; omega) ?_; intro v5 w5 ho5 hg5 hb5; obtain ⟨G5, n5, d5, rfl, _⟩ := strsN (SRowE.strs ho5); have HO5 := Lib.hid ho5; have HB5 := Lib.hid (srowB HB.out HR.out hg5); clear ho5 hg5 hb5)
              | fail)
            go_roundg gg
            case measure => omega
            case rel => exact ⟨i + 1, i + 1, o + 1, _, G5, n5, d5, rfl, by go_num, by go_num, by go_num, by omega, by omega, by omega, by omega, HCUT, HO5, HB5⟩
          · have HPS := Lib.hid ((HLV.out _ HO.out).1 (fun h => h0 h.2))
            go_wp2
            go_roundg gg
            case measure => omega
            case rel => exact ⟨i + 1, f, o + 1, outs, Ak, nk, ck, rfl, by go_num, rfl, by go_num, by omega, by omega, by omega, by omega, HPS, HR, HB⟩
        · have qg : ((s[i].toNat : Int) == (g.toNat : Int)) = false := by rw [HCC.out, beq_eq_false_iff_ne]; intro h; exact hcg (UInt8.toNat_inj.1 (by omega))
          have HPS := Lib.hid ((HLV.out _ HO.out).1 (fun h => hcg h.1))
          clear hcg
          go_wp2
          go_roundg gg
          case measure => omega
          case rel => exact ⟨i + 1, f, o + 1, outs, Ak, nk, ck, rfl, by go_num, rfl, by go_num, by omega, by omega, by omega, by omega, HPS, HR, HB⟩
      · have q40 : ((s[i].toNat : Int) == 40) = false := by rw [HCC.out, beq_eq_false_iff_ne]; intro h; exact h40 (UInt8.toNat_inj.1 (by simpa using (by omega : cc.toNat = 40)))
        by_cases h41 : cc = 41
        · have q41 : ((s[i].toNat : Int) == 41) = true := by rw [HCC.out, h41]; rfl
          have HO : Hid (o - 1 = lvl o cc) := Lib.hid (by unfold lvl; rw [if_neg h40, if_pos h41]; omega)
          clear h40 h41
          by_cases hcg : cc = g
          · have qg : ((s[i].toNat : Int) == (g.toNat : Int)) = true := by rw [HCC.out, hcg]; simp
            have HCG := Lib.hid hcg
            clear hcg
            by_cases h0 : o - 1 = 0
            · have HCUT := Lib.hid ((HLV.out _ HO.out).2 ⟨HCG.out, h0⟩)
              go_wp2_with (first
                | (at_builtin; refine wpList_append_strsE rfl (.tmp 36) (.tmp 41) rfl w.heap.size (Under ((wr.alloc (.cells #[.string (s.extract f i)] 9)).heap.size)) (.slice Ak nk ck) (.slice (some ⟨wr.heap.size, 0, none⟩) 1 1) outs [s.extract f i] rfl rfl (World.ownsRow.alloc HR.out _) (strs_one (heap_new _ _) (by show _ < _; simp)) HLN.out (by have := HB.out.size; simp; omega) ?_; intro v5 w5 ho5 hg5 hb5; obtain ⟨G5, n5, d5, rfl, _⟩ := strsN (SRowE.strs ho5); have HO5 := Lib.hid ho5; have HB5 := Lib.hid (srowB HB.out HR.out hg5); clear ho5 hg5 hb5)
                | fail)
              go_roundg gg
              case measure => omega
              case rel => exact ⟨i + 1, i + 1, o - 1, _, G5, n5, d5, rfl, by go_num, by go_num, by go_num, by omega, by omega, by omega, by omega, HCUT, HO5, HB5⟩
            · have HPS := Lib.hid ((HLV.out _ HO.out).1 (fun h => h0 h.2))
              go_wp2
              go_roundg gg
              case measure => omega
              case rel => exact ⟨i + 1, f, o - 1, outs, Ak, nk, ck, rfl, by go_num, rfl, by go_num, by omega, by omega, by omega, by omega, HPS, HR, HB⟩
          · have qg : ((s[i].toNat : Int) == (g.toNat : Int)) = false := by rw [HCC.out, beq_eq_false_iff_ne]; intro h; exact hcg (UInt8.toNat_inj.1 (by omega))
            have HPS := Lib.hid ((HLV.out _ HO.out).1 (fun h => hcg h.1))
            clear hcg
            go_wp2
            go_roundg gg
            case measure => omega
            case rel => exact ⟨i + 1, f, o - 1, outs, Ak, nk, ck, rfl, by go_num, rfl, by go_num, by omega, by omega, by omega, by omega, HPS, HR, HB⟩
        · have q41 : ((s[i].toNat : Int) == 41) = false := by rw [HCC.out, beq_eq_false_iff_ne]; intro h; exact h41 (UInt8.toNat_inj.1 (by simpa using (by omega : cc.toNat = 41)))
          have HO : Hid (o = lvl o cc) := Lib.hid (lvl_other h40 h41).symm
          clear h40 h41
          by_cases hcg : cc = g
          · have qg : ((s[i].toNat : Int) == (g.toNat : Int)) = true := by rw [HCC.out, hcg]; simp
            have HCG := Lib.hid hcg
            clear hcg
            by_cases h0 : o = 0
            · have HCUT := Lib.hid ((HLV.out _ HO.out).2 ⟨HCG.out, h0⟩)
              go_wp2_with (first
                | (at_builtin; refine wpList_append_strsE rfl (.tmp 36) (.tmp 41) rfl w.heap.size (Under ((wr.alloc (.cells #[.string (s.extract f i)] 9)).heap.size)) (.slice Ak nk ck) (.slice (some ⟨wr.heap.size, 0, none⟩) 1 1) outs [s.extract f i] rfl rfl (World.ownsRow.alloc HR.out _) (strs_one (heap_new _ _) (by show _ < _; simp)) HLN.out (by have := HB.out.size; simp; omega) ?_; intro v5 w5 ho5 hg5 hb5; obtain ⟨G5, n5, d5, rfl, _⟩ := strsN (SRowE.strs ho5); have HO5 := Lib.hid ho5; have HB5 := Lib.hid (srowB HB.out HR.out hg5); clear ho5 hg5 hb5)
                | fail)
              go_roundg gg
              case measure => omega
              case rel => exact ⟨i + 1, i + 1, o, _, G5, n5, d5, rfl, by go_num, by go_num, by go_num, by omega, by omega, by omega, by omega, HCUT, HO5, HB5⟩
            · have HPS := Lib.hid ((HLV.out _ HO.out).1 (fun h => h0 h.2))
              go_wp2
              go_roundg gg
              case measure => omega
              case rel => exact ⟨i + 1, f, o, outs, Ak, nk, ck, rfl, rfl, rfl, by go_num, by omega, by omega, by omega, by omega, HPS, HR, HB⟩
          · have qg : ((s[i].toNat : Int) == (g.toNat : Int)) = false := by rw [HCC.out, beq_eq_false_iff_ne]; intro h; exact hcg (UInt8.toNat_inj.1 (by omega))
            have HPS := Lib.hid ((HLV.out _ HO.out).1 (fun h => hcg h.1))
            clear hcg
            go_wp2
            go_roundg gg
            case measure => omega
            case rel => exact ⟨i + 1, f, o, outs, Ak, nk, ck, rfl, rfl, rfl, by go_num, by omega, by omega, by omega, by omega, HPS, HR, HB⟩
    · have HD : Hid ((cutP g s.data.toList 0 []).map bA = outs ++ [bA (s.data.toList.drop f)]) := Lib.hid (HC.out.done (by rw [HL.out]; omega))
      go_wp2_with (first
        | (at_builtin; refine wpList_append_strsE rfl (.tmp 45) (.tmp 49) rfl w.heap.size (Under ((wr.alloc (.cells #[.string (s.extract f s.size)] 9)).heap.size)) (.slice Ak nk ck) (.slice (some ⟨wr.heap.size, 0, none⟩) 1 1) outs [s.extract f s.size] rfl rfl (World.ownsRow.alloc HR.out _) (strs_one (heap_new _ _) (by show _ < _; simp)) HLN.out (by have := HB.out.size; simp; omega) ?_; intro v5 w5 ho5 hg5 hb5; obtain ⟨G5, n5, d5, rfl, _⟩ := strsN (SRowE.strs ho5); have HO5 := Lib.hid ho5; have HB5 := Lib.hid (srowB HB.out HR.out hg5); clear ho5 hg5 hb5)
        | fail)
      go_ret
      exact ⟨_, rfl, by have h := HO5.out; rw [HD.out]; rw [show s.extract f s.size = bA (s.data.toList.drop f) from ext_drop s f] at h; exact h, HB5.out⟩
end Go.Proofs.YtldmimekmjmkgaaDoor

namespace Go.Proofs.YtldmimekmjmkgaaDoor
open Go.RowKit Go.Sort Go.Maps Go.WideMaps

/-- A part, and what stands between two. -/
def partE (o : Nat) (x : Ex) : ByteArray := if o = 97 then writeE x else inE x (writeE x)
def sepE (o : Nat) : ByteArray := if o = 115 then ⟨#[32]⟩ else ⟨#[124]⟩
def accE (o : Nat) (l : List Ex) : ByteArray := joinE (sepE o) (l.map (partE o))
theorem acc_none (o : Nat) : accE o [] = ByteArray.empty := bytesE_of rfl
theorem join_end (sep : List UInt8) (x b : List UInt8) (l : List (List UInt8)) : Lib.join ((x :: l) ++ [b]) sep = Lib.join (x :: l) sep ++ sep ++ b := by
  rw [List.cons_append, Lib.join_cons, Lib.join_cons]
  unfold Lib.joinTail
  simp
theorem acc_first {o : Nat} {l : List Ex} {x : Ex} (h : l[0]? = some x) : accE o (l.take 1) = partE o x := by
  match l, h with
  | y :: l, h =>
    obtain rfl : y = x := by simpa using h
    refine bytesE_of ?_
    show Lib.join [(partE o y).data.toList] (sepE o).data.toList = _
    rw [Lib.join_cons]
    unfold Lib.joinTail
    simp
theorem acc_next {o : Nat} {l : List Ex} {i : Nat} {x : Ex} (h : l[i]? = some x) (hi : i ≠ 0) : accE o (l.take (i + 1)) = accE o (l.take i) ++ sepE o ++ partE o x := by
  rw [List.take_add_one, h]
  match l, i, hi, h with
  | y :: l, i + 1, _, _ =>
    refine bytesE_of ?_
    show Lib.join (List.map (fun s : ByteArray => s.data.toList) (List.map (partE o) (List.take (i + 1) (y :: l) ++ [x]))) (sepE o).data.toList = _
    rw [List.map_append, List.map_append, List.take_succ_cons, List.map_cons, List.map_cons]
    show Lib.join (_ :: _ ++ [(partE o x).data.toList]) _ = _
    rw [join_end, ByteArray.data_append, ByteArray.data_append, Array.toList_append, Array.toList_append]
    rfl
theorem sep_size (o : Nat) : (sepE o).size = 1 := by unfold sepE; split <;> rfl
theorem part_size {o : Nat} {x : Ex} (h : allE okN x = true) (hs : sizeE x ≤ 24) : (partE o x).size ≤ 290 := by
  have h1 := write_len x h
  have h2 := inE_size x (writeE x)
  unfold partE
  split <;> omega
theorem acc_size {o : Nat} : ∀ (l : List Ex), (∀ x ∈ l, allE okN x = true ∧ sizeE x ≤ 24) → (accE o l).size ≤ 300 * l.length := by
  intro l h
  have h1 := joinE_size (sepE o) (sep_size o) (l.map (partE o))
  have h2 : Lib.lens ((l.map (partE o)).map (·.data.toList)) ≤ 290 * l.length := by
    clear h1
    induction l with
    | nil => simp [Lib.lens]
    | cons x l ih =>
      have h3 := ih fun y hy => h y (List.mem_cons_of_mem _ hy)
      have h4 := part_size (o := o) (h x (List.mem_cons_self ..)).1 (h x (List.mem_cons_self ..)).2
      rw [← list_size] at h4
      simp only [Lib.lens, List.map_cons, List.sum_cons, List.length_cons] at h3 ⊢
      omega
  unfold accE
  rw [List.length_map] at h1
  omega
theorem write_alt {l : List Ex} : writeE (.mk 97 ByteArray.empty l) = accE 97 l := by
  rw [writeE, if_neg (by decide), if_pos rfl, writesE_map]
  unfold accE
  rw [show partE 97 = writeE from funext fun x => if_pos rfl]
  rfl
theorem write_seq {l : List Ex} (h : l.length ≠ 0) : writeE (.mk 115 ByteArray.empty l) = accE 115 l := by
  rw [writeE, if_neg (by decide), if_neg (by decide), if_pos rfl, if_neg h, innersE_map]
  rfl
theorem write_rep {o : Nat} (h : repE o = true) {x : Ex} {l : List Ex} (hl : l = [x]) : writeE (.mk o ByteArray.empty l) = accE o l ++ ⟨#[UInt8.ofNat o]⟩ := by
  obtain ⟨_, _, _, h3, h4, h5⟩ := repE_small h
  subst hl
  have h6 : accE o [x] = partE o x := acc_first (l := [x]) rfl
  rw [writeE, if_neg h3, if_neg h4, if_neg h5, firstE, h6]
  unfold partE
  rw [if_neg h4]
theorem part_alt (x : Ex) : partE 97 x = writeE x := if_pos rfl
theorem part_par {o : Nat} {x : Ex} (ho : o ≠ 97) (h : parE x = true) : partE o x = (⟨#[40]⟩ : ByteArray) ++ writeE x ++ ⟨#[41]⟩ := by unfold partE inE; rw [if_neg ho, if_pos h]
theorem part_no {o : Nat} {x : Ex} (ho : o ≠ 97) (h : parE x = false) : partE o x = writeE x := by unfold partE inE; rw [if_neg ho, h]; rfl
theorem par_97 {x : Ex} (h : x.op = 97) : parE x = true := by unfold parE; rw [h]; rfl
theorem par_115 {x : Ex} (h : x.op = 115) (h2 : 0 < x.kids.length) : parE x = true := by unfold parE; rw [h, decide_eq_true h2]; rfl
theorem par_0 {x : Ex} (h : x.op = 115) (h2 : ¬ 0 < x.kids.length) : parE x = false := by unfold parE; rw [h, decide_eq_false h2]; rfl
theorem par_no {x : Ex} (h : x.op ≠ 97) (h2 : x.op ≠ 115) : parE x = false := by unfold parE; rw [beq_eq_false_iff_ne.2 h, beq_eq_false_iff_ne.2 h2]; rfl
/-- One byte in a row, as a text. -/
theorem run_one_byte (w : World) (g o c : Nat) (h : w.cell? ⟨g, 0, none⟩ = some (.int .u8 (o : Int))) :
    (convert 78 9 (.slice (some ⟨g, 0, none⟩) 1 c)).run Tryd.prog w = .ok (.string ⟨#[UInt8.ofNat o]⟩) w := by
  rw [run_convert_bytes_string w 78 9 5 (some ⟨g, 0, none⟩) 1 c Tryd.underlying78 Tryd.underlying5 Tryd.underlying9]
  have hl := run_loadCells_list (P := Tryd.prog) (w := w) ⟨g, 0, none⟩ ([(o : Int)].map (Value.int .u8)) fun j v hj => by
    rw [add_cell, Nat.zero_add]
    match j, hj with
    | 0, hj => rw [h]; simpa using hj
    | j + 1, hj => simp at hj
  exact run_bytesToString w ⟨g, 0, none⟩ 1 c [(o : Int)] (by simpa using hl)

theorem one_cell {w : World} {g : Nat} {v : Value} {T : TypeId} (h : w.heap[g]? = some (.cells #[v] T)) : w.cell? ⟨g, 0, none⟩ = some v := by simp [World.cell?, show w.heap[g]? = _ from h]
def RWSaid (e : Ex) : Prop := ∀ (A : Option Addr) (n c B : Nat) (w : World), e.fits → allE okN e = true → sizeE e ≤ 24 → Exs w (Under B) (.slice A n c) e.kids → B ≤ w.heap.size →
  Calls Tryd.prog 29 #[.agg #[.int .u8 (e.op : Int), .string e.name, .slice A n c]] w fun x w' => x = .returned (.string (writeE e)) ∧ Below w.heap.size w w'
set_option maxRecDepth 100000 in
set_option maxHeartbeats 8000000 in
theorem rwrite_walk : ∀ e, RWSaid e := by
  intro e
  induction e using Ex.induct_one with
  | h o s l ih =>
    intro A n c B w he ha hsz hl hB
    have IH := Lib.hid ih
    clear ih
    simp only [Ex.op, Ex.name, Ex.kids] at *
    have hlen := hl.len
    obtain ⟨A', c', hv, hc, hm, _⟩ := id hl
    injection hv with hA hn hc'
    subst hA hn hc'
    unfold maxLen at hm
    have HF := Lib.hid he
    have HA := Lib.hid hl
    have HZZ : Hid (1 + sizeEs l ≤ 24) := Lib.hid (by rw [sizeE] at hsz; exact hsz)
    have hll : l.length ≤ 23 := by have := sizes_len l; have := HZZ.out; omega
    have HB1 : Hid (Below w.heap.size w (w.alloc (.cells #[.int .u8 (o : Int), .string s, .slice A l.length c] 30))) := Lib.hid ((Below.refl _ _).alloc (Nat.le_refl _) _)
    have HN1 : Hid ((w.alloc (.cells #[.int .u8 (o : Int), .string s, .slice A l.length c] 30)).heap[w.heap.size]? = some (.cells #[.int .u8 (o : Int), .string s, .slice A l.length c] 30)) := Lib.hid (heap_new _ _)
    have hz1 : (w.alloc (.cells #[.int .u8 (o : Int), .string s, .slice A l.length c] 30)).heap.size = w.heap.size + 1 := by simp
    clear hl he hsz
    by_cases ho : o = 110
    · have HQ : Hid (writeE (.mk o s l) = s) := Lib.hid (by rw [writeE, if_pos ho])
      subst ho
      clear ha
      go_enter Tryd.func29, Tryd.ntmps29
      go_wp2
      go_ret
      exact ⟨rd_ret HQ.out.symm, HB1.out⟩
    have e110 : ((o : Int) == 110) = false := by simp; omega
    obtain rfl := all_empty ha ho
    have hop := write_op ha
    by_cases h97 : o = 97
    · subst h97
      obtain ⟨hl2, hop2, hks⟩ := all_alt ha
      have HKS := Lib.hid hks
      have HOP := Lib.hid hop2
      have HRO : Hid (repE 97 = false) := Lib.hid rfl
      have HQ : Hid (writeE (.mk 97 ByteArray.empty l) = accE 97 l) := Lib.hid write_alt
      clear hl2 hop2 hks hop ha ho e110
      go_enter Tryd.func29, Tryd.ntmps29
      go_wp2
      generalize w.alloc (.cells #[.int .u8 (97 : Nat), .string ByteArray.empty, .slice A l.length c] 30) = w1 at *
      go_loopg [3, 4, 5, 6] l.length (fun g q u y z wx => ∃ i : Nat, q = .string (accE 97 (l.take i)) ∧ u = .int .i64 i ∧ i + g = l.length ∧ Hid (Below w1.heap.size w1 wx))
      case atStart => exact ⟨0, by rw [List.take_zero, acc_none]; rfl, rfl, by omega, Lib.hid (Below.refl _ _)⟩
      case round =>
        obtain ⟨i, rfl, rfl, hig, HR⟩ := hrel
        have HBX : Hid (wr.heap[w.heap.size]? = some (.cells #[.int .u8 (97 : Nat), .string ByteArray.empty, .slice A l.length c] 30)) := Lib.hid ((HR.out.block _ (by omega)).trans HN1.out)
        obtain ⟨d0, d1, d2⟩ := three_cells HBX.out
        have hzl := cell_lt d0
        by_cases hi : i < l.length
        · have hlx : l[i]? = some l[i] := List.getElem?_eq_getElem hi
          generalize hx : l[i] = x at *
          have HAR : Hid (Exs wr (Under B) (.slice A l.length c) l) := Lib.hid (HA.out.keep (fun _ h => h) fun b hb => (HR.out.block b (by have : b < B := hb; omega)).trans (HB1.out.block b (Nat.lt_of_lt_of_le hb hB)))
          obtain ⟨b, off, rfl, hb, hat⟩ := HAR.out.get hlx
          obtain ⟨v3, f0, f1, f2, exk⟩ := (exAt_iff x b _).1 hat
          obtain ⟨A3, c3, rfl, _⟩ := id exk
          have hl3 := cell_lt f0
          have HX := Lib.hid hlx
          have HMEM := Lib.hid (List.mem_of_getElem? hlx)
          have HKX : Hid (allE okN x = true ∧ sizeE x ≤ 24) := Lib.hid ⟨HKS.out x HMEM.out, by have := size_mem HMEM.out; have := HZZ.out; omega⟩
          have hxo : x.op ≠ 97 := HOP.out x HMEM.out
          have HBK : Hid (Below wr.heap.size wr (wr.alloc (.cells #[.int .u8 (x.op : Int), .string x.name, .slice A3 x.kids.length c3] 30))) := Lib.hid ((Below.refl _ _).alloc (Nat.le_refl _) _)
          have HTB : Hid (TwoB (wr.alloc (.cells #[.int .u8 (x.op : Int), .string x.name, .slice A3 x.kids.length c3] 30)) w.heap.size wr.heap.size #[.int .u8 (97 : Nat), .string ByteArray.empty, .slice (some ⟨b, off, none⟩) l.length c] #[.int .u8 (x.op : Int), .string x.name, .slice A3 x.kids.length c3]) := Lib.hid ⟨(HBK.out.block _ hzl).trans HBX.out, heap_new _ _⟩
          have HEK : Hid (Exs (wr.alloc (.cells #[.int .u8 (x.op : Int), .string x.name, .slice A3 x.kids.length c3] 30)) (Under B) (.slice A3 x.kids.length c3) x.kids) := Lib.hid (exk.keep (fun _ h => h) fun b hb => HBK.out.block b (by have : b < B := hb; have := HR.out.size; omega))
          have hBz : B ≤ (wr.alloc (.cells #[.int .u8 (x.op : Int), .string x.name, .slice A3 x.kids.length c3] 30)).heap.size := by have := HR.out.size; simp; omega
          obtain ⟨g, rfl⟩ : ∃ g, gk = g + 1 := ⟨gk - 1, by omega⟩
          clear exk hx hlx hat hb
          go_wp2_with fail
          refine (IH.out x HMEM.out A3 _ c3 B _ (HF.out.kid (e := .mk 97 ByteArray.empty l) HMEM.out) HKX.out.1 HKX.out.2 HEK.out hBz).mono ?_
          rintro e w3 ⟨rfl, hb3⟩
          have HT3 := Lib.hid (HTB.out.keep hb3)
          have HR3 : Hid (Below w1.heap.size w1 w3) := Lib.hid (belowNext (belowNext HR.out HBK.out) hb3)
          clear hb3 f0 f1 f2 HEK d0 d1 d2 HTB HBX hBz HBK HAR
          obtain ⟨d0, d1, d2⟩ := three_cells HT3.out.1
          obtain ⟨k0, k1, k2⟩ := three_cells HT3.out.2
          have hzd := cell_lt d0
          have hzk := cell_lt k0
          have HTS : Hid ((writeE x).size ≤ 288) := Lib.hid (by have := write_len x HKX.out.1; have := HKX.out.2; omega)
          have HQS : Hid ((accE 97 (l.take i)).size ≤ 7200) := Lib.hid (by have h := acc_size (o := 97) (l.take i) (fun y hy => ⟨HKS.out y (List.mem_of_mem_take hy), by have := size_mem (List.mem_of_mem_take hy); have := HZZ.out; omega⟩); rw [List.length_take] at h; omega)
          have HNF : Hid (i = 0 → accE 97 (l.take (i + 1)) = partE 97 x) := Lib.hid fun h => by subst h; exact acc_first HX.out
          have HQZ : Hid (i = 0 → accE 97 (l.take i) = ByteArray.empty) := Lib.hid fun h => by subst h; rw [List.take_zero, acc_none]
          have HNN : Hid (i ≠ 0 → accE 97 (l.take (i + 1)) = accE 97 (l.take i) ++ ⟨#[124]⟩ ++ partE 97 x) := Lib.hid fun h => acc_next HX.out h
          obtain ⟨t, ht⟩ : ∃ t, writeE x = t := ⟨_, rfl⟩
          have HTX := Lib.hid ht
          rw [ht]
          rw [ht] at HTS
          generalize accE 97 (l.take i) = q at *
          clear ht
          have e97 : ((x.op : Int) == 97) = false := by simp; omega
          by_cases x115 : x.op = 115
          · have e115 : ((x.op : Int) == 115) = true := by simp [x115]
            by_cases xk : 0 < x.kids.length
            · have ek := xk
              have HP : Hid (partE 97 x = t) := Lib.hid (by rw [← HTX.out]; exact part_alt x)
              clear x115 hxo
              by_cases hi0 : i = 0
              · have HFIN : Hid (accE 97 (l.take (i + 1)) = q ++ (t)) := Lib.hid (by rw [HNF.out hi0, HP.out, HQZ.out hi0, ByteArray.empty_append])
                have g0 : ¬ 0 < i := by omega
                clear hi0
                have n3 : ¬ 9223372036854775807 < q.size + t.size := by have := HTS.out; have := HQS.out; omega
                go_wp2
                go_roundg g
                case measure => omega
                case rel => exact ⟨i + 1, by rw [HFIN.out] <;> rfl, by go_num, by omega, HR3⟩
              · have HFIN : Hid (accE 97 (l.take (i + 1)) = q ++ ⟨#[124]⟩ ++ (t)) := Lib.hid (by rw [HNN.out hi0, HP.out])
                have g0 : 0 < i := by omega
                clear hi0
                have n3 : ¬ 9223372036854775807 < q.size + 1 := by have := HQS.out; omega
                have n4 : ¬ 9223372036854775807 < q.size + 1 + t.size := by have := HTS.out; have := HQS.out; omega
                go_wp2
                go_roundg g
                case measure => omega
                case rel => exact ⟨i + 1, by rw [HFIN.out] <;> rfl, by go_num, by omega, HR3⟩
            · have ek := xk
              have HP : Hid (partE 97 x = t) := Lib.hid (by rw [← HTX.out]; exact part_alt x)
              clear x115 hxo
              by_cases hi0 : i = 0
              · have HFIN : Hid (accE 97 (l.take (i + 1)) = q ++ (t)) := Lib.hid (by rw [HNF.out hi0, HP.out, HQZ.out hi0, ByteArray.empty_append])
                have g0 : ¬ 0 < i := by omega
                clear hi0
                have n3 : ¬ 9223372036854775807 < q.size + t.size := by have := HTS.out; have := HQS.out; omega
                go_wp2
                go_roundg g
                case measure => omega
                case rel => exact ⟨i + 1, by rw [HFIN.out] <;> rfl, by go_num, by omega, HR3⟩
              · have HFIN : Hid (accE 97 (l.take (i + 1)) = q ++ ⟨#[124]⟩ ++ (t)) := Lib.hid (by rw [HNN.out hi0, HP.out])
                have g0 : 0 < i := by omega
                clear hi0
                have n3 : ¬ 9223372036854775807 < q.size + 1 := by have := HQS.out; omega
                have n4 : ¬ 9223372036854775807 < q.size + 1 + t.size := by have := HTS.out; have := HQS.out; omega
                go_wp2
                go_roundg g
                case measure => omega
                case rel => exact ⟨i + 1, by rw [HFIN.out] <;> rfl, by go_num, by omega, HR3⟩
          have e115 : ((x.op : Int) == 115) = false := by simp; omega
          have HP : Hid (partE 97 x = t) := Lib.hid (by rw [← HTX.out]; exact part_alt x)
          clear x115 hxo
          by_cases hi0 : i = 0
          · have HFIN : Hid (accE 97 (l.take (i + 1)) = q ++ (t)) := Lib.hid (by rw [HNF.out hi0, HP.out, HQZ.out hi0, ByteArray.empty_append])
            have g0 : ¬ 0 < i := by omega
            clear hi0
            have n3 : ¬ 9223372036854775807 < q.size + t.size := by have := HTS.out; have := HQS.out; omega
            go_wp2
            go_roundg g
            case measure => omega
            case rel => exact ⟨i + 1, by rw [HFIN.out] <;> rfl, by go_num, by omega, HR3⟩
          · have HFIN : Hid (accE 97 (l.take (i + 1)) = q ++ ⟨#[124]⟩ ++ (t)) := Lib.hid (by rw [HNN.out hi0, HP.out])
            have g0 : 0 < i := by omega
            clear hi0
            have n3 : ¬ 9223372036854775807 < q.size + 1 := by have := HQS.out; omega
            have n4 : ¬ 9223372036854775807 < q.size + 1 + t.size := by have := HTS.out; have := HQS.out; omega
            go_wp2
            go_roundg g
            case measure => omega
            case rel => exact ⟨i + 1, by rw [HFIN.out] <;> rfl, by go_num, by omega, HR3⟩
        · have HE : Hid (l.take i = l) := Lib.hid (List.take_of_length_le (by omega))
          go_wp2_with fail
          refine (after_any 97 _ _ _ _ _).mono ?_
          rintro e w4 ⟨rfl, hb4⟩
          have HBX4 := Lib.hid ((hb4.block _ hzl).trans HBX.out)
          have HR4 : Hid (Below w1.heap.size w1 w4) := Lib.hid (belowNext HR.out hb4)
          rw [HRO.out]
          clear hb4 d0 d1 d2 hzl
          go_wp2
          go_ret
          exact ⟨rd_ret (by rw [HQ.out, HE.out]), HB1.out.trans (HR4.out.mono (by omega))⟩
    have e97o : ((o : Int) == 97) = false := by simp; omega
    have n97o : ((o : Int) != 97) = true := by simp; omega
    by_cases h115 : o = 115
    · subst h115
      obtain ⟨hl2, hop2, hks⟩ := all_seq ha
      have HKS := Lib.hid hks
      have HOP := Lib.hid hop2
      have HRO : Hid (repE 115 = false) := Lib.hid rfl
      clear hop2 hks hop ha ho e110 e97o n97o h97
      by_cases h0 : l.length = 0
      · have HQ : Hid (writeE (.mk 115 ByteArray.empty l) = ⟨#[40, 41]⟩) := Lib.hid (by rw [writeE, if_neg (by decide), if_neg (by decide), if_pos rfl, if_pos h0])
        have eh : ((l.length : Int) == 0) = true := by simp [h0]
        clear h0 hl2
        go_enter Tryd.func29, Tryd.ntmps29
        go_wp2
        go_ret
        exact ⟨rd_ret HQ.out.symm, HB1.out⟩
      · have HQ : Hid (writeE (.mk 115 ByteArray.empty l) = accE 115 l) := Lib.hid (write_seq h0)
        have eh : ((l.length : Int) == 0) = false := by simp; intro h; exact h0 (by rw [h]; rfl)
        clear h0 hl2
        go_enter Tryd.func29, Tryd.ntmps29
        go_wp2
        generalize w.alloc (.cells #[.int .u8 (115 : Nat), .string ByteArray.empty, .slice A l.length c] 30) = w1 at *
        go_loopg [3, 4, 5, 6] l.length (fun g q u y z wx => ∃ i : Nat, q = .string (accE 115 (l.take i)) ∧ u = .int .i64 i ∧ i + g = l.length ∧ Hid (Below w1.heap.size w1 wx))
        case atStart => exact ⟨0, by rw [List.take_zero, acc_none]; rfl, rfl, by omega, Lib.hid (Below.refl _ _)⟩
        case round =>
          obtain ⟨i, rfl, rfl, hig, HR⟩ := hrel
          have HBX : Hid (wr.heap[w.heap.size]? = some (.cells #[.int .u8 (115 : Nat), .string ByteArray.empty, .slice A l.length c] 30)) := Lib.hid ((HR.out.block _ (by omega)).trans HN1.out)
          obtain ⟨d0, d1, d2⟩ := three_cells HBX.out
          have hzl := cell_lt d0
          by_cases hi : i < l.length
          · have hlx : l[i]? = some l[i] := List.getElem?_eq_getElem hi
            generalize hx : l[i] = x at *
            have HAR : Hid (Exs wr (Under B) (.slice A l.length c) l) := Lib.hid (HA.out.keep (fun _ h => h) fun b hb => (HR.out.block b (by have : b < B := hb; omega)).trans (HB1.out.block b (Nat.lt_of_lt_of_le hb hB)))
            obtain ⟨b, off, rfl, hb, hat⟩ := HAR.out.get hlx
            obtain ⟨v3, f0, f1, f2, exk⟩ := (exAt_iff x b _).1 hat
            obtain ⟨A3, c3, rfl, _⟩ := id exk
            have hl3 := cell_lt f0
            have HX := Lib.hid hlx
            have HMEM := Lib.hid (List.mem_of_getElem? hlx)
            have HKX : Hid (allE okN x = true ∧ sizeE x ≤ 24) := Lib.hid ⟨HKS.out x HMEM.out, by have := size_mem HMEM.out; have := HZZ.out; omega⟩
            have hxo : x.op ≠ 115 := HOP.out x HMEM.out
            have HBK : Hid (Below wr.heap.size wr (wr.alloc (.cells #[.int .u8 (x.op : Int), .string x.name, .slice A3 x.kids.length c3] 30))) := Lib.hid ((Below.refl _ _).alloc (Nat.le_refl _) _)
            have HTB : Hid (TwoB (wr.alloc (.cells #[.int .u8 (x.op : Int), .string x.name, .slice A3 x.kids.length c3] 30)) w.heap.size wr.heap.size #[.int .u8 (115 : Nat), .string ByteArray.empty, .slice (some ⟨b, off, none⟩) l.length c] #[.int .u8 (x.op : Int), .string x.name, .slice A3 x.kids.length c3]) := Lib.hid ⟨(HBK.out.block _ hzl).trans HBX.out, heap_new _ _⟩
            have HEK : Hid (Exs (wr.alloc (.cells #[.int .u8 (x.op : Int), .string x.name, .slice A3 x.kids.length c3] 30)) (Under B) (.slice A3 x.kids.length c3) x.kids) := Lib.hid (exk.keep (fun _ h => h) fun b hb => HBK.out.block b (by have : b < B := hb; have := HR.out.size; omega))
            have hBz : B ≤ (wr.alloc (.cells #[.int .u8 (x.op : Int), .string x.name, .slice A3 x.kids.length c3] 30)).heap.size := by have := HR.out.size; simp; omega
            obtain ⟨g, rfl⟩ : ∃ g, gk = g + 1 := ⟨gk - 1, by omega⟩
            clear exk hx hlx hat hb
            go_wp2_with fail
            refine (IH.out x HMEM.out A3 _ c3 B _ (HF.out.kid (e := .mk 115 ByteArray.empty l) HMEM.out) HKX.out.1 HKX.out.2 HEK.out hBz).mono ?_
            rintro e w3 ⟨rfl, hb3⟩
            have HT3 := Lib.hid (HTB.out.keep hb3)
            have HR3 : Hid (Below w1.heap.size w1 w3) := Lib.hid (belowNext (belowNext HR.out HBK.out) hb3)
            clear hb3 f0 f1 f2 HEK d0 d1 d2 HTB HBX hBz HBK HAR
            obtain ⟨d0, d1, d2⟩ := three_cells HT3.out.1
            obtain ⟨k0, k1, k2⟩ := three_cells HT3.out.2
            have hzd := cell_lt d0
            have hzk := cell_lt k0
            have HTS : Hid ((writeE x).size ≤ 288) := Lib.hid (by have := write_len x HKX.out.1; have := HKX.out.2; omega)
            have HQS : Hid ((accE 115 (l.take i)).size ≤ 7200) := Lib.hid (by have h := acc_size (o := 115) (l.take i) (fun y hy => ⟨HKS.out y (List.mem_of_mem_take hy), by have := size_mem (List.mem_of_mem_take hy); have := HZZ.out; omega⟩); rw [List.length_take] at h; omega)
            have HNF : Hid (i = 0 → accE 115 (l.take (i + 1)) = partE 115 x) := Lib.hid fun h => by subst h; exact acc_first HX.out
            have HQZ : Hid (i = 0 → accE 115 (l.take i) = ByteArray.empty) := Lib.hid fun h => by subst h; rw [List.take_zero, acc_none]
            have HNN : Hid (i ≠ 0 → accE 115 (l.take (i + 1)) = accE 115 (l.take i) ++ ⟨#[32]⟩ ++ partE 115 x) := Lib.hid fun h => acc_next HX.out h
            obtain ⟨t, ht⟩ : ∃ t, writeE x = t := ⟨_, rfl⟩
            have HTX := Lib.hid ht
            rw [ht]
            rw [ht] at HTS
            generalize accE 115 (l.take i) = q at *
            clear ht
            by_cases x97 : x.op = 97
            · have e97 : ((x.op : Int) == 97) = true := by simp [x97]
              have HP : Hid (partE 115 x = (⟨#[40]⟩ : ByteArray) ++ t ++ ⟨#[41]⟩) := Lib.hid (by rw [← HTX.out]; exact part_par (show (115 : Nat) ≠ 97 by decide) (par_97 x97))
              clear x97 hxo
              by_cases hi0 : i = 0
              · have HFIN : Hid (accE 115 (l.take (i + 1)) = q ++ ((⟨#[40]⟩ : ByteArray) ++ t ++ ⟨#[41]⟩)) := Lib.hid (by rw [HNF.out hi0, HP.out, HQZ.out hi0, ByteArray.empty_append])
                have g0 : ¬ 0 < i := by omega
                clear hi0
                have n1 : ¬ 9223372036854775807 < 1 + t.size := by have := HTS.out; omega
                have n2 : ¬ 9223372036854775807 < 1 + t.size + 1 := by have := HTS.out; omega
                have n3 : ¬ 9223372036854775807 < q.size + (1 + t.size + 1) := by have := HTS.out; have := HQS.out; omega
                go_wp2
                go_roundg g
                case measure => omega
                case rel => exact ⟨i + 1, by rw [HFIN.out] <;> rfl, by go_num, by omega, HR3⟩
              · have HFIN : Hid (accE 115 (l.take (i + 1)) = q ++ ⟨#[32]⟩ ++ ((⟨#[40]⟩ : ByteArray) ++ t ++ ⟨#[41]⟩)) := Lib.hid (by rw [HNN.out hi0, HP.out])
                have g0 : 0 < i := by omega
                clear hi0
                have n1 : ¬ 9223372036854775807 < 1 + t.size := by have := HTS.out; omega
                have n2 : ¬ 9223372036854775807 < 1 + t.size + 1 := by have := HTS.out; omega
                have n3 : ¬ 9223372036854775807 < q.size + 1 := by have := HQS.out; omega
                have n4 : ¬ 9223372036854775807 < q.size + 1 + (1 + t.size + 1) := by have := HTS.out; have := HQS.out; omega
                go_wp2
                go_roundg g
                case measure => omega
                case rel => exact ⟨i + 1, by rw [HFIN.out] <;> rfl, by go_num, by omega, HR3⟩
            have e97 : ((x.op : Int) == 97) = false := by simp; omega
            have e115 : ((x.op : Int) == 115) = false := by simp; omega
            have HP : Hid (partE 115 x = t) := Lib.hid (by rw [← HTX.out]; exact part_no (show (115 : Nat) ≠ 97 by decide) (par_no x97 hxo))
            clear hxo x97
            by_cases hi0 : i = 0
            · have HFIN : Hid (accE 115 (l.take (i + 1)) = q ++ (t)) := Lib.hid (by rw [HNF.out hi0, HP.out, HQZ.out hi0, ByteArray.empty_append])
              have g0 : ¬ 0 < i := by omega
              clear hi0
              have n3 : ¬ 9223372036854775807 < q.size + t.size := by have := HTS.out; have := HQS.out; omega
              go_wp2
              go_roundg g
              case measure => omega
              case rel => exact ⟨i + 1, by rw [HFIN.out] <;> rfl, by go_num, by omega, HR3⟩
            · have HFIN : Hid (accE 115 (l.take (i + 1)) = q ++ ⟨#[32]⟩ ++ (t)) := Lib.hid (by rw [HNN.out hi0, HP.out])
              have g0 : 0 < i := by omega
              clear hi0
              have n3 : ¬ 9223372036854775807 < q.size + 1 := by have := HQS.out; omega
              have n4 : ¬ 9223372036854775807 < q.size + 1 + t.size := by have := HTS.out; have := HQS.out; omega
              go_wp2
              go_roundg g
              case measure => omega
              case rel => exact ⟨i + 1, by rw [HFIN.out] <;> rfl, by go_num, by omega, HR3⟩
          · have HE : Hid (l.take i = l) := Lib.hid (List.take_of_length_le (by omega))
            go_wp2_with fail
            refine (after_any 115 _ _ _ _ _).mono ?_
            rintro e w4 ⟨rfl, hb4⟩
            have HBX4 := Lib.hid ((hb4.block _ hzl).trans HBX.out)
            have HR4 : Hid (Below w1.heap.size w1 w4) := Lib.hid (belowNext HR.out hb4)
            rw [HRO.out]
            clear hb4 d0 d1 d2 hzl
            go_wp2
            go_ret
            exact ⟨rd_ret (by rw [HQ.out, HE.out]), HB1.out.trans (HR4.out.mono (by omega))⟩
    have e115o : ((o : Int) == 115) = false := by simp; omega
    have hro : repE o = true := by rcases hop with h | h | h | h <;> first | exact absurd h ho | exact absurd h h97 | exact absurd h h115 | exact h
    obtain ⟨x0, hlx0, _, hks0⟩ := all_rep ha ho h115 h97
    have HL1 : Hid (l.length = 1) := Lib.hid (by rw [hlx0]; rfl)
    have HKS : Hid (∀ x ∈ l, allE okN x = true) := Lib.hid (by intro y hy; rw [hlx0] at hy; simp at hy; subst hy; exact hks0)
    have HQ : Hid (writeE (.mk o ByteArray.empty l) = accE o l ++ ⟨#[UInt8.ofNat o]⟩) := Lib.hid (write_rep hro hlx0)
    have HRO := Lib.hid hro
    have HO97 := Lib.hid h97
    clear hlx0 hks0 hro hop ha ho h97 h115
    go_enter Tryd.func29, Tryd.ntmps29
    go_wp2
    generalize w.alloc (.cells #[.int .u8 (o : Nat), .string ByteArray.empty, .slice A l.length c] 30) = w1 at *
    go_loopg [3, 4, 5, 6] l.length (fun g q u y z wx => ∃ i : Nat, q = .string (accE o (l.take i)) ∧ u = .int .i64 i ∧ i + g = l.length ∧ Hid (Below w1.heap.size w1 wx))
    case atStart => exact ⟨0, by rw [List.take_zero, acc_none]; rfl, rfl, by omega, Lib.hid (Below.refl _ _)⟩
    case round =>
      obtain ⟨i, rfl, rfl, hig, HR⟩ := hrel
      have HBX : Hid (wr.heap[w.heap.size]? = some (.cells #[.int .u8 (o : Nat), .string ByteArray.empty, .slice A l.length c] 30)) := Lib.hid ((HR.out.block _ (by omega)).trans HN1.out)
      obtain ⟨d0, d1, d2⟩ := three_cells HBX.out
      have hzl := cell_lt d0
      by_cases hi : i < l.length
      · have hlx : l[i]? = some l[i] := List.getElem?_eq_getElem hi
        generalize hx : l[i] = x at *
        have HAR : Hid (Exs wr (Under B) (.slice A l.length c) l) := Lib.hid (HA.out.keep (fun _ h => h) fun b hb => (HR.out.block b (by have : b < B := hb; omega)).trans (HB1.out.block b (Nat.lt_of_lt_of_le hb hB)))
        obtain ⟨b, off, rfl, hb, hat⟩ := HAR.out.get hlx
        obtain ⟨v3, f0, f1, f2, exk⟩ := (exAt_iff x b _).1 hat
        obtain ⟨A3, c3, rfl, _⟩ := id exk
        have hl3 := cell_lt f0
        have HX := Lib.hid hlx
        have HMEM := Lib.hid (List.mem_of_getElem? hlx)
        have HKX : Hid (allE okN x = true ∧ sizeE x ≤ 24) := Lib.hid ⟨HKS.out x HMEM.out, by have := size_mem HMEM.out; have := HZZ.out; omega⟩
        have HBK : Hid (Below wr.heap.size wr (wr.alloc (.cells #[.int .u8 (x.op : Int), .string x.name, .slice A3 x.kids.length c3] 30))) := Lib.hid ((Below.refl _ _).alloc (Nat.le_refl _) _)
        have HTB : Hid (TwoB (wr.alloc (.cells #[.int .u8 (x.op : Int), .string x.name, .slice A3 x.kids.length c3] 30)) w.heap.size wr.heap.size #[.int .u8 (o : Nat), .string ByteArray.empty, .slice (some ⟨b, off, none⟩) l.length c] #[.int .u8 (x.op : Int), .string x.name, .slice A3 x.kids.length c3]) := Lib.hid ⟨(HBK.out.block _ hzl).trans HBX.out, heap_new _ _⟩
        have HEK : Hid (Exs (wr.alloc (.cells #[.int .u8 (x.op : Int), .string x.name, .slice A3 x.kids.length c3] 30)) (Under B) (.slice A3 x.kids.length c3) x.kids) := Lib.hid (exk.keep (fun _ h => h) fun b hb => HBK.out.block b (by have : b < B := hb; have := HR.out.size; omega))
        have hBz : B ≤ (wr.alloc (.cells #[.int .u8 (x.op : Int), .string x.name, .slice A3 x.kids.length c3] 30)).heap.size := by have := HR.out.size; simp; omega
        obtain ⟨g, rfl⟩ : ∃ g, gk = g + 1 := ⟨gk - 1, by omega⟩
        clear exk hx hlx hat hb
        go_wp2_with fail
        refine (IH.out x HMEM.out A3 _ c3 B _ (HF.out.kid (e := .mk o ByteArray.empty l) HMEM.out) HKX.out.1 HKX.out.2 HEK.out hBz).mono ?_
        rintro e w3 ⟨rfl, hb3⟩
        have HT3 := Lib.hid (HTB.out.keep hb3)
        have HR3 : Hid (Below w1.heap.size w1 w3) := Lib.hid (belowNext (belowNext HR.out HBK.out) hb3)
        clear hb3 f0 f1 f2 HEK d0 d1 d2 HTB HBX hBz HBK HAR
        obtain ⟨d0, d1, d2⟩ := three_cells HT3.out.1
        obtain ⟨k0, k1, k2⟩ := three_cells HT3.out.2
        have hzd := cell_lt d0
        have hzk := cell_lt k0
        have HTS : Hid ((writeE x).size ≤ 288) := Lib.hid (by have := write_len x HKX.out.1; have := HKX.out.2; omega)
        have HQS : Hid ((accE o (l.take i)).size ≤ 7200) := Lib.hid (by have h := acc_size (o := o) (l.take i) (fun y hy => ⟨HKS.out y (List.mem_of_mem_take hy), by have := size_mem (List.mem_of_mem_take hy); have := HZZ.out; omega⟩); rw [List.length_take] at h; omega)
        have HNF : Hid (i = 0 → accE o (l.take (i + 1)) = partE o x) := Lib.hid fun h => by subst h; exact acc_first HX.out
        have HQZ : Hid (i = 0 → accE o (l.take i) = ByteArray.empty) := Lib.hid fun h => by subst h; rw [List.take_zero, acc_none]
        obtain ⟨t, ht⟩ : ∃ t, writeE x = t := ⟨_, rfl⟩
        have HTX := Lib.hid ht
        rw [ht]
        rw [ht] at HTS
        generalize accE o (l.take i) = q at *
        clear ht
        by_cases x97 : x.op = 97
        · have e97 : ((x.op : Int) == 97) = true := by simp [x97]
          have HP : Hid (partE o x = (⟨#[40]⟩ : ByteArray) ++ t ++ ⟨#[41]⟩) := Lib.hid (by rw [← HTX.out]; exact part_par HO97.out (par_97 x97))
          clear x97
          have hi0 : i = 0 := by have := HL1.out; omega
          have HFIN : Hid (accE o (l.take (i + 1)) = q ++ ((⟨#[40]⟩ : ByteArray) ++ t ++ ⟨#[41]⟩)) := Lib.hid (by rw [HNF.out hi0, HP.out, HQZ.out hi0, ByteArray.empty_append])
          have g0 : ¬ 0 < i := by omega
          clear hi0
          have n1 : ¬ 9223372036854775807 < 1 + t.size := by have := HTS.out; omega
          have n2 : ¬ 9223372036854775807 < 1 + t.size + 1 := by have := HTS.out; omega
          have n3 : ¬ 9223372036854775807 < q.size + (1 + t.size + 1) := by have := HTS.out; have := HQS.out; omega
          go_wp2
          go_roundg g
          case measure => omega
          case rel => exact ⟨i + 1, by rw [HFIN.out] <;> rfl, by go_num, by omega, HR3⟩
        have e97 : ((x.op : Int) == 97) = false := by simp; omega
        by_cases x115 : x.op = 115
        · have e115 : ((x.op : Int) == 115) = true := by simp [x115]
          by_cases xk : 0 < x.kids.length
          · have ek := xk
            have HP : Hid (partE o x = (⟨#[40]⟩ : ByteArray) ++ t ++ ⟨#[41]⟩) := Lib.hid (by rw [← HTX.out]; exact part_par HO97.out (par_115 x115 xk))
            clear x115 x97
            have hi0 : i = 0 := by have := HL1.out; omega
            have HFIN : Hid (accE o (l.take (i + 1)) = q ++ ((⟨#[40]⟩ : ByteArray) ++ t ++ ⟨#[41]⟩)) := Lib.hid (by rw [HNF.out hi0, HP.out, HQZ.out hi0, ByteArray.empty_append])
            have g0 : ¬ 0 < i := by omega
            clear hi0
            have n1 : ¬ 9223372036854775807 < 1 + t.size := by have := HTS.out; omega
            have n2 : ¬ 9223372036854775807 < 1 + t.size + 1 := by have := HTS.out; omega
            have n3 : ¬ 9223372036854775807 < q.size + (1 + t.size + 1) := by have := HTS.out; have := HQS.out; omega
            go_wp2
            go_roundg g
            case measure => omega
            case rel => exact ⟨i + 1, by rw [HFIN.out] <;> rfl, by go_num, by omega, HR3⟩
          · have ek := xk
            have HP : Hid (partE o x = t) := Lib.hid (by rw [← HTX.out]; exact part_no HO97.out (par_0 x115 xk))
            clear x115 x97
            have hi0 : i = 0 := by have := HL1.out; omega
            have HFIN : Hid (accE o (l.take (i + 1)) = q ++ (t)) := Lib.hid (by rw [HNF.out hi0, HP.out, HQZ.out hi0, ByteArray.empty_append])
            have g0 : ¬ 0 < i := by omega
            clear hi0
            have n3 : ¬ 9223372036854775807 < q.size + t.size := by have := HTS.out; have := HQS.out; omega
            go_wp2
            go_roundg g
            case measure => omega
            case rel => exact ⟨i + 1, by rw [HFIN.out] <;> rfl, by go_num, by omega, HR3⟩
        have e115 : ((x.op : Int) == 115) = false := by simp; omega
        have HP : Hid (partE o x = t) := Lib.hid (by rw [← HTX.out]; exact part_no HO97.out (par_no x97 x115))
        clear x115 x97
        have hi0 : i = 0 := by have := HL1.out; omega
        have HFIN : Hid (accE o (l.take (i + 1)) = q ++ (t)) := Lib.hid (by rw [HNF.out hi0, HP.out, HQZ.out hi0, ByteArray.empty_append])
        have g0 : ¬ 0 < i := by omega
        clear hi0
        have n3 : ¬ 9223372036854775807 < q.size + t.size := by have := HTS.out; have := HQS.out; omega
        go_wp2
        go_roundg g
        case measure => omega
        case rel => exact ⟨i + 1, by rw [HFIN.out] <;> rfl, by go_num, by omega, HR3⟩
      · have HE : Hid (l.take i = l) := Lib.hid (List.take_of_length_le (by omega))
        have HQ2 : Hid (writeE (.mk o ByteArray.empty l) = accE o (l.take i) ++ ⟨#[UInt8.ofNat o]⟩) := Lib.hid (by rw [HE.out]; exact HQ.out)
        have HQS : Hid ((accE o (l.take i)).size ≤ 7200) := Lib.hid (by have h := acc_size (o := o) (l.take i) (fun y hy => ⟨HKS.out y (List.mem_of_mem_take hy), by have := size_mem (List.mem_of_mem_take hy); have := HZZ.out; omega⟩); rw [List.length_take] at h; omega)
        generalize accE o (l.take i) = q at *
        go_wp2_with fail
        refine (after_any o _ _ _ _ _).mono ?_
        rintro e w4 ⟨rfl, hb4⟩
        have HBX4 := Lib.hid ((hb4.block _ hzl).trans HBX.out)
        have HR4 : Hid (Below w1.heap.size w1 w4) := Lib.hid (belowNext HR.out hb4)
        rw [HRO.out]
        clear hb4 d0 d1 d2 hzl
        obtain ⟨d0, d1, d2⟩ := three_cells HBX4.out
        have hzl := cell_lt d0
        have n1 : ¬ 9223372036854775807 < q.size + 1 := by have := HQS.out; omega
        have HBB : Hid (Below w1.heap.size w1 (w4.alloc (.cells #[.int .u8 (o : Int)] 5))) := Lib.hid (belowNext HR4.out ((Below.refl _ _).alloc (Nat.le_refl _) _))
        have hcv := run_one_byte (w4.alloc (.cells #[.int .u8 (o : Int)] 5)) w4.heap.size o 1 (one_cell (heap_new w4 (.cells #[.int .u8 (o : Int)] 5)))
        go_wp2
        go_ret
        exact ⟨rd_ret HQ2.out.symm, HB1.out.trans (HBB.out.mono (by omega))⟩
end Go.Proofs.YtldmimekmjmkgaaDoor

namespace Go.Proofs.YtldmimekmjmkgaaDoor
open Go.RowKit Go.Sort Go.Maps Go.WideMaps

/-- What is told, from the box of the result. -/
theorem rr_fin {w W : World} (v : Int) {o : Nat} (hv : v = (o : Int)) {s : ByteArray} {l : List Ex} {A : Option Addr} {n c : Nat} {u0 u1 u2 : Value} (hB : Below w.heap.size w W) (hz : W.heap[w.heap.size]? = some (.cells #[u0, u1, u2] 30)) (hk : Exs W (From (w.heap.size + 1) W.heap.size) (.slice A n c) l) :
    (((W.setCell ⟨w.heap.size, 0, none⟩ (.int .u8 v)).setCell ⟨w.heap.size, 1, none⟩ (.string s)).setCell ⟨w.heap.size, 2, none⟩ (.slice A n c)).heap[w.heap.size]? = some (.cells #[.int .u8 v, .string s, .slice A n c] 30) ∧
    EPost w (.mk o s l) (.returned (.agg #[.int .u8 v, .string s, .slice A n c])) (((W.setCell ⟨w.heap.size, 0, none⟩ (.int .u8 v)).setCell ⟨w.heap.size, 1, none⟩ (.string s)).setCell ⟨w.heap.size, 2, none⟩ (.slice A n c)) := by
  subst hv
  obtain ⟨x0, hx, hzz⟩ := put3x (v0 := .int .u8 (o : Int)) (v1 := .string s) (v2 := .slice A n c) hz
  refine ⟨x0, A, n, c, rfl, hk.keep (fun b hb => ⟨by have := hb.1; omega, by rw [hzz]; exact hb.2⟩) fun b hb => hx b (by have := hb.1; omega), hB.os, hB.tape, hB.output, by rw [hzz]; exact hB.size, fun b hb => (hx b (by omega)).trans (hB.block b hb)⟩
theorem rr_none {w : World} : EPost w (.mk 0 ⟨#[]⟩ []) (.returned (.agg #[.int .u8 0, .string ⟨#[]⟩, .slice none 0 0])) (w.alloc (.cells #[.int .u8 0, .string ⟨#[]⟩, .slice none 0 0] 30)) :=
  ⟨none, 0, 0, rfl, exs_nil _ _, (Below.refl _ _).alloc (Nat.le_refl _) _⟩
theorem KRowR.first {w : World} {lo : Nat} {e : Ex} {A : Option Addr} {n c : Nat} (hlo : lo ≤ w.heap.size) (hk : Exs w (From lo w.heap.size) (.slice A n c) e.kids) :
    KRowR (w.alloc (.cells #[.int .u8 (e.op : Int), .string e.name, .slice A n c] 30)) lo (.slice (some ⟨w.heap.size, 0, none⟩) 1 1) [e] := by
  refine ⟨[.int .u8 (e.op : Int), .string e.name, .slice A n c], ⟨rfl, .inr ⟨w.heap.size, 1, #[.int .u8 (e.op : Int), .string e.name, .slice A n c], rfl, hlo, heap_new _ _, Nat.le_refl _, by unfold maxLen; omega, rfl, rfl⟩⟩, _, [], rfl, ?_, rfl⟩
  exact hk.keep (fun b hb => ⟨hb.1, by have := hb.2; simp; omega, by intro h; have h5 : w.heap.size = b := Option.some.inj h; have := hb.2; omega⟩) fun b hb => Below.heap_alloc _ _ _ hb.2
/-- Where read's loop stands: e lies at w's end. -/
structure ReAt (w wx : World) (o : Nat) (l : List Ex) (i : Nat) (vk : Value) : Prop where
  below : Below w.heap.size w wx
  out : wx.heap[w.heap.size]? = some (.cells #[.int .u8 (o : Int), .string ⟨#[]⟩, vk] 30)
  row : KRowR wx (w.heap.size + 1) vk (l.take i)
theorem ReAt.low {w wx : World} {o : Nat} {l : List Ex} {i : Nat} {vk : Value} (h : ReAt w wx o l i vk) : w.heap.size < wx.heap.size := (Array.getElem?_eq_some_iff.1 h.out).1
theorem ReAt.keep {w wx wy : World} {o : Nat} {l : List Ex} {i : Nat} {vk : Value} (h : ReAt w wx o l i vk) (hb : Below wx.heap.size wx wy) : ReAt w wy o l i vk := by
  have hl := h.low
  exact ⟨belowNext h.below hb, (hb.block _ (by omega)).trans h.out, h.row.keep hb.size fun b _ hb2 => hb.block b hb2⟩
theorem ReAt.next {w W w5 : World} {o : Nat} {l : List Ex} {i : Nat} {vk v5 vx : Value} {x : Ex} {xs : List Value} (h : ReAt w W o l i vk) (hx : l.take (i + 1) = l.take i ++ [x])
    (hvk : ∀ b, vk.ownBlock = some b → w.heap.size + 1 ≤ b) (hkc : KC W (fun b => w.heap.size + 1 ≤ b ∧ b < W.heap.size ∧ vk.ownBlock ≠ some b) (l.take i) xs)
    (ho : w5.ownsRow (w.heap.size + 1) 30 3 v5 ((l.take i).length + 1) (xs ++ [.int .u8 (x.op : Int), .string x.name, vx])) (hg : W.grownBy w5 vk.ownBlock) (hb : v5.ownBlock = vk.ownBlock ∨ v5.ownBlock = some W.heap.size)
    (hk : Exs W (fun b => w.heap.size + 1 ≤ b ∧ b < W.heap.size ∧ vk.ownBlock ≠ some b) vx x.kids) : ReAt w (w5.setCell ⟨w.heap.size, 2, none⟩ v5) o l (i + 1) v5 := by
  have hl := h.low
  have hblk : ∀ b, b < w.heap.size + 1 → w5.heap[b]? = W.heap[b]? := fun b hb' => hg.block b (by omega) fun e => by have := hvk b e.symm; omega
  have hrow := KRowR.more hkc ho hg hb hk
  refine ⟨⟨hg.os.trans h.below.os, hg.tape.trans h.below.tape, hg.output.trans h.below.output, by have h1 := h.below.size; have h2 := hg.size; simp [World.setCell]; omega, fun b hb' => (Below.heap_setCell _ _ _ _ (by dsimp only; omega)).trans ((hblk b (by omega)).trans (h.below.block b hb'))⟩, ?_, ?_⟩
  · exact heap_setCell_same w5 _ 2 _ _ _ ((hblk _ (by omega)).trans h.out)
  · rw [hx]
    exact hrow.keep (by simp [World.setCell]) fun b hb1 _ => Below.heap_setCell _ _ _ _ (by dsimp only; omega)
section
variable {w : World} {ops : Array Oper} {o : Oper} {a : Act} {Q : Exit → Act → World → Prop} {K : Act → World → Prop} {E : Prop}
theorem step_rd {s : ByteArray} {m : Int} {x : Ex} (hw : Region.wanted o (yielded ops a.tmps) = true) (p q : Operand) (ho : o.op = .call { callee := .value (.func 41), args := #[p, q], argTypes := #[9, 3] })
    (hp : a.eval p = .string s) (hq : a.eval q = .int .i64 m) (hC : Calls Tryd.prog 41 #[.string s, .int .i64 m] w (EPost w x))
    (h : ∀ (A : Option Addr) (n c : Nat) (w' : World), Exs w' (From w.heap.size w'.heap.size) (.slice A n c) x.kids → Below w.heap.size w w' → K (a.put o.dst (.agg #[.int .u8 (x.op : Int), .string x.name, .slice A n c])) w') : if Region.wanted o (yielded ops a.tmps) = true then Oper.wp Tryd.prog o a w K Q else E := by
  rw [if_pos hw]
  have hrun : (execOp a.eval o).run Tryd.prog w = .ok (.enter 41 #[.string s, .int .i64 m]) w := by
    have hf : a.eval (.func 41) = .func (.func 41) #[] #[] := rfl
    obtain ⟨c, hc⟩ : ∃ c, Tryd.f41.body = some c := Option.isSome_iff_exists.1 (by kernel_rfl)
    have hne : ¬ Tryd.f41.name = "runtime.NumGoroutine" := of_decide_eq_false (by kernel_rfl)
    simp [execOp, ho, resolve, invoke, hp, hq, hf, Deferred.ofValue, callFunc, hne, hc]
  unfold Oper.wp
  rw [hrun, Oper.upon_enter]
  refine hC.mono fun e w'' hh => ?_
  obtain ⟨A, n, c, rfl, h1, h2⟩ := hh
  exact h A n c w'' h1 h2
end
/-- What the kids are. -/
def rKids (n : Nat) (ps : List (List UInt8)) : List Ex := ps.map (readR n)
theorem cutP_ne (g : UInt8) : ∀ (L : List UInt8) (o : Int) (cur : List UInt8), (cutP g L o cur).length ≠ 0
  | [], _, _ => by simp [cutP]
  | c :: r, o, cur => by
    rw [cutP]
    split
    · simp
    · exact cutP_ne g r _ _
theorem cutP_sum (g : UInt8) : ∀ (L : List UInt8) (o : Int) (cur : List UInt8), ∀ p ∈ cutP g L o cur, p.length ≤ L.length + cur.length
  | [], _, cur, p, hp => by simp [cutP] at hp; subst hp; simp
  | c :: r, o, cur, p, hp => by
    rw [cutP] at hp
    split at hp
    · rcases List.mem_cons.1 hp with rfl | hp
      · simp
      · have := cutP_sum g r _ _ p hp
        simp only [List.length_cons, List.length_nil] at this ⊢; omega
    · have := cutP_sum g r _ _ p hp
      simp only [List.length_cons, List.length_append, List.length_nil] at this ⊢; omega
theorem strsAt {W : World} {S : Nat → Prop} {A : Option Addr} {n c : Nat} {l : List ByteArray} (h : Strs W S (.slice A n c) l) {i : Nat} {s : ByteArray} (hi : l[i]? = some s) : ∃ b o, A = some ⟨b, o, none⟩ ∧ S b ∧ W.cell? ⟨b, o + i, none⟩ = some (.string s) := by
  obtain ⟨A', c', hv, _, _, h⟩ := h
  injection hv with hA _ _
  subst hA
  rcases h with h | ⟨b, o, rfl, hb, hx⟩
  · subst h; simp at hi
  · exact ⟨b, o, rfl, hb, hx i s hi⟩
theorem partAt {L : List (List UInt8)} {i : Nat} (h : i < L.length) : ∃ x, L[i]? = some x := ⟨_, List.getElem?_eq_getElem h⟩
theorem strs_byte {W : World} {S : Nat → Prop} {A : Option Addr} {n c : Nat} {ps : List (List UInt8)} (h : Strs W S (.slice A n c) (ps.map bA)) {i : Nat} {p : List UInt8} (hp : ps[i]? = some p) :
    ∃ b o, A = some ⟨b, o, none⟩ ∧ W.cell? ⟨b, o + i, none⟩ = some (.string (bA p)) := by
  obtain ⟨b, o, h1, _, h2⟩ := strsAt h (i := i) (s := bA p) (by rw [List.getElem?_map, hp]; rfl)
  exact ⟨b, o, h1, h2⟩
theorem rKids_take {n : Nat} {ps : List (List UInt8)} {i : Nat} {p : List UInt8} (hp : ps[i]? = some p) : (rKids n ps).take (i + 1) = (rKids n ps).take i ++ [readR n p] := by
  unfold rKids
  rw [List.take_add_one, List.getElem?_map, hp]; rfl
theorem bA_size (l : List UInt8) : (bA l).size = l.length := by rw [← list_size]; rfl
theorem bA_empty {s : ByteArray} (h : s.data.toList = []) : s.size = 0 := by rw [← list_size, h]; rfl
theorem ext_init {s : ByteArray} {k : Nat} (h : s.size = k + 1) : (s.extract 0 k).data.toList = s.data.toList.dropLast := by
  rw [ext_take, List.dropLast_eq_take, list_size, h]
  rfl
theorem ext_inner {s : ByteArray} {k : Nat} (h : s.size = k + 1) : (s.extract 1 k).data.toList = s.data.toList.tail.dropLast := by
  rw [ext_mid, List.dropLast_eq_take, List.length_tail, list_size, h, ← List.drop_one]
  rfl
theorem last_is {s : ByteArray} {k : Nat} (h : s.size = k + 1) (hk : k < s.size) : s.data.toList.getLastD 0 = s[k] := by
  have h1 : s.data.toList.length = k + 1 := by rw [list_size, h]
  rw [List.getLastD_eq_getLast?, List.getLast?_eq_getElem?, h1, Nat.add_sub_cancel, List.getElem?_eq_getElem (by omega)]
  rfl
theorem head_is {s : ByteArray} (hk : 0 < s.size) : s.data.toList.headD 0 = s[0] := by
  have h1 : 0 < s.data.toList.length := by rw [list_size]; exact hk
  rw [List.headD_eq_head?_getD, List.head?_eq_getElem?, List.getElem?_eq_getElem h1]
  rfl

def RRSaid (n : Nat) : Prop := ∀ (m : Int) (s : ByteArray) (w : World), m = n → n ≤ 100 → s.size ≤ 1000 → Calls Tryd.prog 41 #[.string s, .int .i64 m] w (EPost w (readR n s.data.toList))
attribute [local go_sem ↓] Go.wp_at_zero Go.wp_at_succ

set_option maxRecDepth 100000 in
set_option maxHeartbeats 8000000 in
theorem rread_walk : ∀ n, RRSaid n := by
  intro n
  induction n with
  | zero =>
    intro m s w hm _ hs
    subst hm
    have HBZ : Hid (Below w.heap.size w (w.alloc (.cells #[.int .u8 0, .string ⟨#[]⟩, .slice none 0 0] 30))) := Lib.hid ((Below.refl _ _).alloc (Nat.le_refl _) _)
    have HZB : Hid ((w.alloc (.cells #[.int .u8 0, .string ⟨#[]⟩, .slice none 0 0] 30)).heap[w.heap.size]? = some (.cells #[.int .u8 0, .string ⟨#[]⟩, .slice none 0 0] 30)) := Lib.hid (heap_new _ _)
    have HQ : Hid (readR 0 s.data.toList = .mk 0 ⟨#[]⟩ []) := Lib.hid rfl
    by_cases he : s = ByteArray.empty
    · have e1 : (s.toList == []) = true := by rw [he, Lib.toList_data]; rfl
      clear he
      go_enter Tryd.func41, Tryd.ntmps41
      obtain ⟨q0, q1, q2⟩ := three_cells HZB.out
      have t0 := frozen_of_row _ w.heap.size 0 _ _ HZB.out
      have t1 := frozen_of_row _ w.heap.size 1 _ _ HZB.out
      have t2 := frozen_of_row _ w.heap.size 2 _ _ HZB.out
      have hzq := cell_lt q0
      go_wp2
      refine bodyPost_ret (v := .agg #[.int .u8 0, .string ⟨#[]⟩, .slice none 0 0]) (by simp [results, Tryd.results41, go_sem, q0, q1, q2]) rfl ?_
      rw [HQ.out]
      exact rr_none
    · have e1 : (s.toList == []) = false := by rw [beq_eq_false_iff_ne]; intro h; exact he (str_empty h)
      clear he
      go_enter Tryd.func41, Tryd.ntmps41
      obtain ⟨q0, q1, q2⟩ := three_cells HZB.out
      have t0 := frozen_of_row _ w.heap.size 0 _ _ HZB.out
      have t1 := frozen_of_row _ w.heap.size 1 _ _ HZB.out
      have t2 := frozen_of_row _ w.heap.size 2 _ _ HZB.out
      have hzq := cell_lt q0
      go_wp2
      refine bodyPost_ret (v := .agg #[.int .u8 0, .string ⟨#[]⟩, .slice none 0 0]) (by simp [results, Tryd.results41, go_sem, q0, q1, q2]) rfl ?_
      rw [HQ.out]
      exact rr_none
  | succ n ih =>
    intro m s w hm hn hs
    have IH := Lib.hid ih
    clear ih
    have HBZ : Hid (Below w.heap.size w (w.alloc (.cells #[.int .u8 0, .string ⟨#[]⟩, .slice none 0 0] 30))) := Lib.hid ((Below.refl _ _).alloc (Nat.le_refl _) _)
    have HZB : Hid ((w.alloc (.cells #[.int .u8 0, .string ⟨#[]⟩, .slice none 0 0] 30)).heap[w.heap.size]? = some (.cells #[.int .u8 0, .string ⟨#[]⟩, .slice none 0 0] 30)) := Lib.hid (heap_new _ _)
    by_cases he : s = ByteArray.empty
    · have e1 : (s.toList == []) = true := by rw [he, Lib.toList_data]; rfl
      have HQ : Hid (readR (n + 1) s.data.toList = .mk 0 ⟨#[]⟩ []) := Lib.hid (by rw [he]; rfl)
      clear he hm
      go_enter Tryd.func41, Tryd.ntmps41
      obtain ⟨q0, q1, q2⟩ := three_cells HZB.out
      have t0 := frozen_of_row _ w.heap.size 0 _ _ HZB.out
      have t1 := frozen_of_row _ w.heap.size 1 _ _ HZB.out
      have t2 := frozen_of_row _ w.heap.size 2 _ _ HZB.out
      have hzq := cell_lt q0
      go_wp2
      refine bodyPost_ret (v := .agg #[.int .u8 0, .string ⟨#[]⟩, .slice none 0 0]) (by simp [results, Tryd.results41, go_sem, q0, q1, q2]) rfl ?_
      rw [HQ.out]
      exact rr_none
    have e1 : (s.toList == []) = false := by rw [beq_eq_false_iff_ne]; intro h; exact he (str_empty h)
    have HL0 : Hid (s.data.toList ≠ []) := Lib.hid (fun h => he (bytesE_of h))
    have em : (m == 0) = false := by simp; omega
    have HM := Lib.hid hm
    have hm1 : 1 ≤ m := by omega
    have hm2 : m ≤ 100 := by omega
    clear he hm
    go_enter Tryd.func41, Tryd.ntmps41
    go_wp2_with fail
    generalize hW0 : w.alloc (.cells #[.int .u8 0, .string ⟨#[]⟩, .slice none 0 0] 30) = W0 at *
    have hz0 : w.heap.size < W0.heap.size := by rw [← hW0]; simp
    clear hW0
    refine (rcut_any s 124 W0 hs).mono ?_
    rintro x W1 ⟨v1, rfl, hr1, hb1⟩
    obtain ⟨A1, N1, c1, rfl, hN1, hc1, hcm1⟩ := strsN hr1.strs
    rw [List.length_map] at hN1
    unfold maxLen at hcm1
    have HS1 : Hid (Strs W1 (Under W1.heap.size) (.slice A1 N1 c1) ((cutP 124 s.data.toList 0 []).map bA)) := Lib.hid hr1.strs
    have HB1 : Hid (Below w.heap.size w W1) := Lib.hid (belowNext HBZ.out hb1)
    have HZ1 := Lib.hid ((hb1.block _ hz0).trans HZB.out)
    have hzW1 : w.heap.size < W1.heap.size := by have := hb1.size; omega
    have HNN := Lib.hid (cutP_ne 124 s.data.toList 0 [])
    by_cases h1 : N1 = 1
    case neg =>
      have hgt : 1 < N1 := by have := HNN.out; omega
      have HN := Lib.hid hN1
      have HQ : Hid (readR (n + 1) s.data.toList = .mk 97 ByteArray.empty (if (cutP 124 s.data.toList 0 []).length < 30 then rKids n (cutP 124 s.data.toList 0 []) else [])) := Lib.hid (by
        have hp : partsR s.data.toList = (97, cutP 124 s.data.toList 0 []) := by unfold partsR; rw [if_neg (by rw [hN1]; exact h1)]
        rw [readR, if_neg HL0.out, hp, if_pos (by rw [hN1]; exact hgt)]; rfl)
      have e2 : ((N1 : Int) == 1) = false := by simp; omega
      have e3 : decide ((N1 : Int) > 1) = true := by simp; omega
      have HZ := HZ1
      have HBW := HB1
      have hzW := hzW1
      clear hN1 hr1 hb1 HB1 HZ1 HBZ HZB h1 hzW1
      have HAT : Hid (ReAt W1 (W1.alloc (.cells #[.int .u8 (97 : Nat), .string ⟨#[]⟩, .slice none 0 0] 30)) 97 (rKids n (cutP 124 s.data.toList 0 [])) 0 (.slice none 0 0)) := Lib.hid ⟨(Below.refl _ _).alloc (Nat.le_refl _) _, heap_new _ _, ⟨[], World.ownsRow_nil _ _ _ _, rfl⟩⟩
      go_wp2
      generalize W1.alloc (.cells #[.int .u8 (97 : Nat), .string ⟨#[]⟩, .slice none 0 0] 30) = wk at *
      go_loopg [8] N1 (fun g u wx => ∃ (i : Nat) (vk : Value), u = .int .i64 i ∧ i + g = N1 ∧ (30 ≤ N1 → i = 0) ∧ Hid (ReAt W1 wx 97 (rKids n (cutP 124 s.data.toList 0 [])) i vk))
      case atStart => exact ⟨0, _, rfl, by omega, fun _ => rfl, HAT⟩
      case round =>
        clear HAT
        obtain ⟨i, vk, rfl, hig, hi30, HR⟩ := hrel
        obtain ⟨Ak, ck, rfl, hck, hckm, _⟩ := id HR.out.row.exs
        generalize hnk : ((rKids n (cutP 124 s.data.toList 0 [])).take i).length = nk at *
        have HNK := Lib.hid hnk
        have hnk2 : nk ≤ i := by rw [← hnk, List.length_take]; omega
        clear hnk
        obtain ⟨k0, k1, k2⟩ := three_cells HR.out.out
        have t2 := frozen_of_row _ W1.heap.size 2 _ _ HR.out.out
        have hlow := HR.out.low
        by_cases hi : i < N1
        · by_cases h30 : N1 < 30
          · obtain ⟨p, hp⟩ : ∃ p, (cutP 124 s.data.toList 0 [])[i]? = some p   := partAt (by rw [HN.out]; exact hi)
            have HP := Lib.hid hp
            have HRO : Hid (Strs wr (Under W1.heap.size) (.slice A1 N1 c1) ((cutP 124 s.data.toList 0 []).map bA)) := Lib.hid (HS1.out.below HR.out.below)
            obtain ⟨b, off, rfl, cx⟩ := strs_byte HRO.out hp
            have hlb := cell_lt cx
            have HCALL : Hid (Calls Tryd.prog 41 #[.string (bA p), .int .i64 (IntKind.i64.wrap (m - 1))] wr.drew (EPost wr.drew (readR n p))) := Lib.hid (IH.out (IntKind.i64.wrap (m - 1)) (bA p) wr.drew (by have := HM.out; rw [IntWalk.i64_in _ (by omega)]; omega) (by omega) (by rw [bA_size]; have := cutP_sum _ _ _ _ p (List.mem_of_getElem? hp); rw [list_size] at this; simp only [List.length_nil] at this; omega))
            have HLX := Lib.hid (rKids_take (n := n) hp)
            obtain ⟨g, rfl⟩ : ∃ g, gk = g + 1 := ⟨gk - 1, by omega⟩
            clear hp
            generalize readR n p = x at *
            have HVK : Hid (∀ b, (Value.slice Ak nk ck).ownBlock = some b → W1.heap.size + 1 ≤ b) := Lib.hid (by obtain ⟨xs, h, _⟩ := HR.out.row; exact fun b hb => (h.lt b hb).1)
            go_wp2_with fail
            go_region_law (first
              | ((with_reducible refine step_rd (s := bA p) (m := IntKind.i64.wrap (m - 1)) (x := x) (by kernel_rfl) (.tmp 45) (.tmp 47) rfl rfl rfl HCALL.out ?_); intro A4 n4 c4 w2 hk2 hb2; have HB2 : Hid (Below wr.heap.size wr w2) := Lib.hid ((below_drewX wr).trans hb2); have HR2 := Lib.hid (HR.out.keep HB2.out); obtain ⟨p0, p1, p2⟩ := three_cells HR2.out.out; have s2 := frozen_of_row _ W1.heap.size 2 _ _ HR2.out.out; have hlow2 := HR2.out.low; have HR3 := Lib.hid (HR2.out.keep (wy := w2.alloc (.cells #[.int .u8 (x.op : Int), .string x.name, .slice A4 n4 c4] 30)) ((Below.refl _ _).alloc (Nat.le_refl _) _)); obtain ⟨xs, hxs, hkc⟩ := HR3.out.row; rw [HNK.out] at hxs; have HXS4 := Lib.hid hxs; have HKC := Lib.hid hkc; have HNEW : Hid ((w2.alloc (.cells #[.int .u8 (x.op : Int), .string x.name, .slice A4 n4 c4] 30)).heap[w2.heap.size]? = some (.cells #[.int .u8 (x.op : Int), .string x.name, .slice A4 n4 c4] 30)) := Lib.hid (heap_new _ _); have HON4 : Hid (∀ u ∈ [Value.int .u8 (x.op : Int), .string x.name, .slice A4 n4 c4], u.oneCell' = true) := Lib.hid (by simp [Value.oneCell']); have HN1 : Hid (nk + 1 ≤ 100000000) := Lib.hid (by omega); have HBS : Hid (W1.heap.size + 1 ≤ (w2.alloc (.cells #[.int .u8 (x.op : Int), .string x.name, .slice A4 n4 c4] 30)).heap.size) := Lib.hid (by simp; omega); have HKX : Hid (Exs (w2.alloc (.cells #[.int .u8 (x.op : Int), .string x.name, .slice A4 n4 c4] 30)) (fun b => W1.heap.size + 1 ≤ b ∧ b < (w2.alloc (.cells #[.int .u8 (x.op : Int), .string x.name, .slice A4 n4 c4] 30)).heap.size ∧ (Value.slice Ak nk ck).ownBlock ≠ some b) (.slice A4 n4 c4) x.kids) := Lib.hid (hk2.keep (fun b hb => ⟨by have h1 : wr.heap.size ≤ b := hb.1; omega, by have := hb.2; simp; omega, by intro h5; obtain ⟨ys, h6, _⟩ := HR.out.row; have h7 := (h6.lt b h5).2; have h8 : wr.heap.size ≤ b := hb.1; omega⟩) fun b hb => Below.heap_alloc _ _ _ hb.2); clear hk2 hb2 hxs hkc)
              | ((with_reducible refine step_append_exR (by kernel_rfl) (.tmp 41) (.tmp 49) rfl (W1.heap.size + 1) (.slice Ak nk ck) nk xs w2.heap.size 1 (.int .u8 (x.op : Int)) (.string x.name) (.slice A4 n4 c4) rfl rfl HXS4.out HNEW.out HON4.out HN1.out HBS.out ?_); intro v5 w5 ho5 hg5 hb5; obtain ⟨G5, d5, rfl⟩ := own_slice ho5; have HFIN := Lib.hid (HR3.out.next HLX.out HVK.out HKC.out (by rw [HNK.out]; exact ho5) hg5 hb5 HKX.out); have hw5 : w5.heap[W1.heap.size]? = some (.cells #[.int .u8 (97 : Nat), .string ⟨#[]⟩, .slice Ak nk ck] 30) := (hg5.block _ (by simp; omega) (fun e5 => by have := HVK.out _ e5.symm; omega)).trans HR3.out.out; obtain ⟨y0, y1, y2⟩ := three_cells hw5; have u2 := frozen_of_row _ W1.heap.size 2 _ _ hw5; have hlow5 := cell_lt y0; clear ho5 hg5 hb5 hw5))
            all_goals
              go_wp2
              go_roundg g
              case measure => omega
              case rel => exact ⟨i + 1, _, by go_num, by omega, by omega, HFIN⟩
          · have HQK : Hid ((rKids n (cutP 124 s.data.toList 0 [])).take i = []) := Lib.hid (by rw [hi30 (by omega), List.take_zero])
            have HQ2 : Hid (readR (n + 1) s.data.toList = .mk 97 ⟨#[]⟩ []) := Lib.hid (by rw [HQ.out, if_neg (by rw [HN.out]; exact h30)]; rfl)
            have HZ4 := Lib.hid ((HR.out.below.block _ hzW).trans HZ.out)
            have HB4 := Lib.hid (belowNext HBW.out HR.out.below)
            have HK4 : Hid (Exs wr (From (w.heap.size + 1) wr.heap.size) (.slice Ak nk ck) []) := Lib.hid (by have h := HR.out.row.exs; rw [HQK.out] at h; exact h.keep (fun b hb => ⟨by have := hb.1; omega, hb.2⟩) fun _ _ => rfl)
            have hnq : w.heap.size ≠ W1.heap.size := by omega
            obtain ⟨q0, q1, q2⟩ := three_cells HZ4.out
            have t0 := frozen_of_row _ w.heap.size 0 _ _ HZ4.out
            have t1 := frozen_of_row _ w.heap.size 1 _ _ HZ4.out
            have t2 := frozen_of_row _ w.heap.size 2 _ _ HZ4.out
            have hzq := cell_lt q0
            go_wp2
            obtain ⟨x0, x1⟩ := rr_fin 97 (o := 97) (by simp) (s := ⟨#[]⟩) (l := []) HB4.out HZ4.out HK4.out
            obtain ⟨y0, y1, y2⟩ := three_cells x0
            refine bodyPost_ret (v := .agg #[.int .u8 97, .string ⟨#[]⟩, .slice Ak nk ck]) (by simp [results, Tryd.results41, go_sem, y0, y1, y2]) rfl ?_
            rw [HQ2.out]
            exact x1
        · have hIN : i = N1 := by omega
          have h30 : N1 < 30 := by
            rcases Nat.lt_or_ge N1 30 with h | h
            · exact h
            · have := hi30 h; omega
          have HQK : Hid ((rKids n (cutP 124 s.data.toList 0 [])).take i = rKids n (cutP 124 s.data.toList 0 [])) := Lib.hid (List.take_of_length_le (by unfold rKids; rw [List.length_map, HN.out]; omega))
          have HQ2 : Hid (readR (n + 1) s.data.toList = .mk 97 ⟨#[]⟩ (rKids n (cutP 124 s.data.toList 0 []))) := Lib.hid (by rw [HQ.out, if_pos (by rw [HN.out]; exact h30)]; rfl)
          clear hIN h30 hi30
          have HZ4 := Lib.hid ((HR.out.below.block _ hzW).trans HZ.out)
          have HB4 := Lib.hid (belowNext HBW.out HR.out.below)
          have HK4 : Hid (Exs wr (From (w.heap.size + 1) wr.heap.size) (.slice Ak nk ck) (rKids n (cutP 124 s.data.toList 0 []))) := Lib.hid (by have h := HR.out.row.exs; rw [HQK.out] at h; exact h.keep (fun b hb => ⟨by have := hb.1; omega, hb.2⟩) fun _ _ => rfl)
          have hnq : w.heap.size ≠ W1.heap.size := by omega
          obtain ⟨q0, q1, q2⟩ := three_cells HZ4.out
          have t0 := frozen_of_row _ w.heap.size 0 _ _ HZ4.out
          have t1 := frozen_of_row _ w.heap.size 1 _ _ HZ4.out
          have t2 := frozen_of_row _ w.heap.size 2 _ _ HZ4.out
          have hzq := cell_lt q0
          go_wp2
          obtain ⟨x0, x1⟩ := rr_fin 97 (o := 97) (by simp) (s := ⟨#[]⟩) (l := rKids n (cutP 124 s.data.toList 0 [])) HB4.out HZ4.out HK4.out
          obtain ⟨y0, y1, y2⟩ := three_cells x0
          refine bodyPost_ret (v := .agg #[.int .u8 97, .string ⟨#[]⟩, .slice Ak nk ck]) (by simp [results, Tryd.results41, go_sem, y0, y1, y2]) rfl ?_
          rw [HQ2.out]
          exact x1
    case pos =>
      have e2 : ((N1 : Int) == 1) = true := by simp; omega
      have HP1 : Hid (partsR s.data.toList = (115, cutP 32 s.data.toList 0 [])) := Lib.hid (by unfold partsR; rw [if_pos (by rw [hN1]; exact h1)])
      clear hN1 hr1 hb1 HS1 HBZ HZB hc1 hcm1 HNN
      go_wp2_with fail
      refine (rcut_any s 32 W1 hs).mono ?_
      rintro x W2 ⟨v2, rfl, hr2, hb2⟩
      obtain ⟨A2, N2, c2, rfl, hN2, hc2, hcm2⟩ := strsN hr2.strs
      rw [List.length_map] at hN2
      unfold maxLen at hcm2
      have HS2 : Hid (Strs W2 (Under W2.heap.size) (.slice A2 N2 c2) ((cutP 32 s.data.toList 0 []).map bA)) := Lib.hid hr2.strs
      have HBW : Hid (Below w.heap.size w W2) := Lib.hid (belowNext HB1.out hb2)
      have HZ := Lib.hid ((hb2.block _ hzW1).trans HZ1.out)
      have hzW : w.heap.size < W2.heap.size := by have := hb2.size; omega
      have HN := Lib.hid hN2
      clear h1 e2 hr2 hb2 HB1 HZ1 hzW1 hN2
      by_cases h2 : 1 < N2
      · have HQ : Hid (readR (n + 1) s.data.toList = .mk 115 ByteArray.empty (if (cutP 32 s.data.toList 0 []).length < 30 then rKids n (cutP 32 s.data.toList 0 []) else [])) := Lib.hid (by
          rw [readR, if_neg HL0.out, HP1.out, if_pos (by rw [HN.out]; exact h2)]; rfl)
        have e3 : decide ((N2 : Int) > 1) = true := by simp; omega
        have HAT : Hid (ReAt W2 (W2.alloc (.cells #[.int .u8 (115 : Nat), .string ⟨#[]⟩, .slice none 0 0] 30)) 115 (rKids n (cutP 32 s.data.toList 0 [])) 0 (.slice none 0 0)) := Lib.hid ⟨(Below.refl _ _).alloc (Nat.le_refl _) _, heap_new _ _, ⟨[], World.ownsRow_nil _ _ _ _, rfl⟩⟩
        go_wp2
        generalize W2.alloc (.cells #[.int .u8 (115 : Nat), .string ⟨#[]⟩, .slice none 0 0] 30) = wk at *
        go_loopg [8] N2 (fun g u wx => ∃ (i : Nat) (vk : Value), u = .int .i64 i ∧ i + g = N2 ∧ (30 ≤ N2 → i = 0) ∧ Hid (ReAt W2 wx 115 (rKids n (cutP 32 s.data.toList 0 [])) i vk))
        case atStart => exact ⟨0, _, rfl, by omega, fun _ => rfl, HAT⟩
        case round =>
          clear HAT
          obtain ⟨i, vk, rfl, hig, hi30, HR⟩ := hrel
          obtain ⟨Ak, ck, rfl, hck, hckm, _⟩ := id HR.out.row.exs
          generalize hnk : ((rKids n (cutP 32 s.data.toList 0 [])).take i).length = nk at *
          have HNK := Lib.hid hnk
          have hnk2 : nk ≤ i := by rw [← hnk, List.length_take]; omega
          clear hnk
          obtain ⟨k0, k1, k2⟩ := three_cells HR.out.out
          have t2 := frozen_of_row _ W2.heap.size 2 _ _ HR.out.out
          have hlow := HR.out.low
          by_cases hi : i < N2
          · by_cases h30 : N2 < 30
            · obtain ⟨p, hp⟩ : ∃ p, (cutP 32 s.data.toList 0 [])[i]? = some p   := partAt (by rw [HN.out]; exact hi)
              have HP := Lib.hid hp
              have HRO : Hid (Strs wr (Under W2.heap.size) (.slice A2 N2 c2) ((cutP 32 s.data.toList 0 []).map bA)) := Lib.hid (HS2.out.below HR.out.below)
              obtain ⟨b, off, rfl, cx⟩ := strs_byte HRO.out hp
              have hlb := cell_lt cx
              have HCALL : Hid (Calls Tryd.prog 41 #[.string (bA p), .int .i64 (IntKind.i64.wrap (m - 1))] wr.drew (EPost wr.drew (readR n p))) := Lib.hid (IH.out (IntKind.i64.wrap (m - 1)) (bA p) wr.drew (by have := HM.out; rw [IntWalk.i64_in _ (by omega)]; omega) (by omega) (by rw [bA_size]; have := cutP_sum _ _ _ _ p (List.mem_of_getElem? hp); rw [list_size] at this; simp only [List.length_nil] at this; omega))
              have HLX := Lib.hid (rKids_take (n := n) hp)
              obtain ⟨g, rfl⟩ : ∃ g, gk = g + 1 := ⟨gk - 1, by omega⟩
              clear hp
              generalize readR n p = x at *
              have HVK : Hid (∀ b, (Value.slice Ak nk ck).ownBlock = some b → W2.heap.size + 1 ≤ b) := Lib.hid (by obtain ⟨xs, h, _⟩ := HR.out.row; exact fun b hb => (h.lt b hb).1)
              go_wp2_with fail
              go_region_law (first
                | ((with_reducible refine step_rd (s := bA p) (m := IntKind.i64.wrap (m - 1)) (x := x) (by kernel_rfl) (.tmp 45) (.tmp 47) rfl rfl rfl HCALL.out ?_); intro A4 n4 c4 w2 hk2 hb2; have HB2 : Hid (Below wr.heap.size wr w2) := Lib.hid ((below_drewX wr).trans hb2); have HR2 := Lib.hid (HR.out.keep HB2.out); obtain ⟨p0, p1, p2⟩ := three_cells HR2.out.out; have s2 := frozen_of_row _ W2.heap.size 2 _ _ HR2.out.out; have hlow2 := HR2.out.low; have HR3 := Lib.hid (HR2.out.keep (wy := w2.alloc (.cells #[.int .u8 (x.op : Int), .string x.name, .slice A4 n4 c4] 30)) ((Below.refl _ _).alloc (Nat.le_refl _) _)); obtain ⟨xs, hxs, hkc⟩ := HR3.out.row; rw [HNK.out] at hxs; have HXS4 := Lib.hid hxs; have HKC := Lib.hid hkc; have HNEW : Hid ((w2.alloc (.cells #[.int .u8 (x.op : Int), .string x.name, .slice A4 n4 c4] 30)).heap[w2.heap.size]? = some (.cells #[.int .u8 (x.op : Int), .string x.name, .slice A4 n4 c4] 30)) := Lib.hid (heap_new _ _); have HON4 : Hid (∀ u ∈ [Value.int .u8 (x.op : Int), .string x.name, .slice A4 n4 c4], u.oneCell' = true) := Lib.hid (by simp [Value.oneCell']); have HN1 : Hid (nk + 1 ≤ 100000000) := Lib.hid (by omega); have HBS : Hid (W2.heap.size + 1 ≤ (w2.alloc (.cells #[.int .u8 (x.op : Int), .string x.name, .slice A4 n4 c4] 30)).heap.size) := Lib.hid (by simp; omega); have HKX : Hid (Exs (w2.alloc (.cells #[.int .u8 (x.op : Int), .string x.name, .slice A4 n4 c4] 30)) (fun b => W2.heap.size + 1 ≤ b ∧ b < (w2.alloc (.cells #[.int .u8 (x.op : Int), .string x.name, .slice A4 n4 c4] 30)).heap.size ∧ (Value.slice Ak nk ck).ownBlock ≠ some b) (.slice A4 n4 c4) x.kids) := Lib.hid (hk2.keep (fun b hb => ⟨by have h1 : wr.heap.size ≤ b := hb.1; omega, by have := hb.2; simp; omega, by intro h5; obtain ⟨ys, h6, _⟩ := HR.out.row; have h7 := (h6.lt b h5).2; have h8 : wr.heap.size ≤ b := hb.1; omega⟩) fun b hb => Below.heap_alloc _ _ _ hb.2); clear hk2 hb2 hxs hkc)
                | ((with_reducible refine step_append_exR (by kernel_rfl) (.tmp 41) (.tmp 49) rfl (W2.heap.size + 1) (.slice Ak nk ck) nk xs w2.heap.size 1 (.int .u8 (x.op : Int)) (.string x.name) (.slice A4 n4 c4) rfl rfl HXS4.out HNEW.out HON4.out HN1.out HBS.out ?_); intro v5 w5 ho5 hg5 hb5; obtain ⟨G5, d5, rfl⟩ := own_slice ho5; have HFIN := Lib.hid (HR3.out.next HLX.out HVK.out HKC.out (by rw [HNK.out]; exact ho5) hg5 hb5 HKX.out); have hw5 : w5.heap[W2.heap.size]? = some (.cells #[.int .u8 (115 : Nat), .string ⟨#[]⟩, .slice Ak nk ck] 30) := (hg5.block _ (by simp; omega) (fun e5 => by have := HVK.out _ e5.symm; omega)).trans HR3.out.out; obtain ⟨y0, y1, y2⟩ := three_cells hw5; have u2 := frozen_of_row _ W2.heap.size 2 _ _ hw5; have hlow5 := cell_lt y0; clear ho5 hg5 hb5 hw5))
              all_goals
                go_wp2
                go_roundg g
                case measure => omega
                case rel => exact ⟨i + 1, _, by go_num, by omega, by omega, HFIN⟩
            · have HQK : Hid ((rKids n (cutP 32 s.data.toList 0 [])).take i = []) := Lib.hid (by rw [hi30 (by omega), List.take_zero])
              have HQ2 : Hid (readR (n + 1) s.data.toList = .mk 115 ⟨#[]⟩ []) := Lib.hid (by rw [HQ.out, if_neg (by rw [HN.out]; exact h30)]; rfl)
              have HZ4 := Lib.hid ((HR.out.below.block _ hzW).trans HZ.out)
              have HB4 := Lib.hid (belowNext HBW.out HR.out.below)
              have HK4 : Hid (Exs wr (From (w.heap.size + 1) wr.heap.size) (.slice Ak nk ck) []) := Lib.hid (by have h := HR.out.row.exs; rw [HQK.out] at h; exact h.keep (fun b hb => ⟨by have := hb.1; omega, hb.2⟩) fun _ _ => rfl)
              have hnq : w.heap.size ≠ W2.heap.size := by omega
              obtain ⟨q0, q1, q2⟩ := three_cells HZ4.out
              have t0 := frozen_of_row _ w.heap.size 0 _ _ HZ4.out
              have t1 := frozen_of_row _ w.heap.size 1 _ _ HZ4.out
              have t2 := frozen_of_row _ w.heap.size 2 _ _ HZ4.out
              have hzq := cell_lt q0
              go_wp2
              obtain ⟨x0, x1⟩ := rr_fin 115 (o := 115) (by simp) (s := ⟨#[]⟩) (l := []) HB4.out HZ4.out HK4.out
              obtain ⟨y0, y1, y2⟩ := three_cells x0
              refine bodyPost_ret (v := .agg #[.int .u8 115, .string ⟨#[]⟩, .slice Ak nk ck]) (by simp [results, Tryd.results41, go_sem, y0, y1, y2]) rfl ?_
              rw [HQ2.out]
              exact x1
          · have hIN : i = N2 := by omega
            have h30 : N2 < 30 := by
              rcases Nat.lt_or_ge N2 30 with h | h
              · exact h
              · have := hi30 h; omega
            have HQK : Hid ((rKids n (cutP 32 s.data.toList 0 [])).take i = rKids n (cutP 32 s.data.toList 0 [])) := Lib.hid (List.take_of_length_le (by unfold rKids; rw [List.length_map, HN.out]; omega))
            have HQ2 : Hid (readR (n + 1) s.data.toList = .mk 115 ⟨#[]⟩ (rKids n (cutP 32 s.data.toList 0 []))) := Lib.hid (by rw [HQ.out, if_pos (by rw [HN.out]; exact h30)]; rfl)
            clear hIN h30 hi30
            have HZ4 := Lib.hid ((HR.out.below.block _ hzW).trans HZ.out)
            have HB4 := Lib.hid (belowNext HBW.out HR.out.below)
            have HK4 : Hid (Exs wr (From (w.heap.size + 1) wr.heap.size) (.slice Ak nk ck) (rKids n (cutP 32 s.data.toList 0 []))) := Lib.hid (by have h := HR.out.row.exs; rw [HQK.out] at h; exact h.keep (fun b hb => ⟨by have := hb.1; omega, hb.2⟩) fun _ _ => rfl)
            have hnq : w.heap.size ≠ W2.heap.size := by omega
            obtain ⟨q0, q1, q2⟩ := three_cells HZ4.out
            have t0 := frozen_of_row _ w.heap.size 0 _ _ HZ4.out
            have t1 := frozen_of_row _ w.heap.size 1 _ _ HZ4.out
            have t2 := frozen_of_row _ w.heap.size 2 _ _ HZ4.out
            have hzq := cell_lt q0
            go_wp2
            obtain ⟨x0, x1⟩ := rr_fin 115 (o := 115) (by simp) (s := ⟨#[]⟩) (l := rKids n (cutP 32 s.data.toList 0 [])) HB4.out HZ4.out HK4.out
            obtain ⟨y0, y1, y2⟩ := three_cells x0
            refine bodyPost_ret (v := .agg #[.int .u8 115, .string ⟨#[]⟩, .slice Ak nk ck]) (by simp [results, Tryd.results41, go_sem, y0, y1, y2]) rfl ?_
            rw [HQ2.out]
            exact x1
      · have HQ : Hid (readR (n + 1) s.data.toList = if repE (s.data.toList.getLastD 0).toNat then .mk (s.data.toList.getLastD 0).toNat ByteArray.empty [readR n s.data.toList.dropLast]
            else if s.data.toList = [40, 41] then .mk 115 ByteArray.empty []
            else if s.data.toList.headD 0 = 40 ∧ s.data.toList.getLastD 0 = 41 then readR n s.data.toList.tail.dropLast
            else .mk 110 ⟨s.data.toList.toArray⟩ []) := Lib.hid (by
          rw [readR, if_neg HL0.out, HP1.out, if_neg (by rw [HN.out]; exact h2)])
        have e3 : decide ((N2 : Int) > 1) = false := by simp; omega
        have n2 : ¬ 1 < N2 := h2
        obtain ⟨k, hk⟩ : ∃ k, s.size = k + 1 := ⟨s.size - 1, by have h : s.size ≠ 0 := fun h => HL0.out (List.eq_nil_of_length_eq_zero (by rw [list_size]; exact h)); omega⟩
        have HK := Lib.hid hk
        have hks : k < s.size := by omega
        have h0s : 0 < s.size := by omega
        have HLA : Hid (s.data.toList.getLastD 0 = s[k]) := Lib.hid (last_is hk hks)
        have HHD : Hid (s.data.toList.headD 0 = s[0]) := Lib.hid (head_is h0s)
        have HEI : Hid ((s.extract 0 k).data.toList = s.data.toList.dropLast) := Lib.hid (ext_init hk)
        have HEM : Hid ((s.extract 1 k).data.toList = s.data.toList.tail.dropLast) := Lib.hid (ext_inner hk)
        rw [HLA.out, HHD.out, ← HEI.out, ← HEM.out] at HQ
        clear h2
        cases hr : repE s[k].toNat with
        | true =>
          have HQ2 : Hid (readR (n + 1) s.data.toList = .mk s[k].toNat ⟨#[]⟩ [readR n (s.extract 0 k).data.toList]) := Lib.hid (by rw [HQ.out, if_pos hr]; rfl)
          have HCALL : Hid (Calls Tryd.prog 41 #[.string (s.extract 0 k), .int .i64 (m - 1)] W2 (EPost W2 (readR n (s.extract 0 k).data.toList))) := Lib.hid (IH.out (m - 1) (s.extract 0 k) W2 (by have := HM.out; omega) (by omega) (by rw [← list_size, HEI.out, List.length_dropLast, list_size]; omega))
          have hl : (s[k].toNat : Int) = 42 ∨ (s[k].toNat : Int) = 43 ∨ (s[k].toNat : Int) = 63 := by simp only [repE, Bool.or_eq_true, beq_iff_eq] at hr; omega
          clear hr HQ HEM HHD HEI
          generalize readR n (s.extract 0 k).data.toList = x at *
          rcases hl with hl | hl | hl
          · have l42 : ((s[k].toNat : Int) == 42) = true := by rw [hl]; rfl
            have l43 : ((s[k].toNat : Int) == 43) = false := by rw [hl]; rfl
            have l63 : ((s[k].toNat : Int) == 63) = false := by rw [hl]; rfl
            clear hl
            go_wp2_with fail
            refine HCALL.out.mono ?_
            rintro y W3 ⟨A3, n3, c3, rfl, hk3, hb3⟩
            have hw3 : W2.heap.size ≤ W3.heap.size := hb3.size
            have HZ3 := Lib.hid ((hb3.block _ hzW).trans HZ.out)
            have HB3 := Lib.hid (belowNext HBW.out hb3)
            have HKN : Hid (Exs (W3.alloc (.cells #[.int .u8 (x.op : Int), .string x.name, .slice A3 n3 c3] 30)) (From (w.heap.size + 1) (W3.alloc (.cells #[.int .u8 (x.op : Int), .string x.name, .slice A3 n3 c3] 30)).heap.size) (.slice (some ⟨W3.heap.size, 0, none⟩) 1 1) [x]) := Lib.hid (KRowR.first (by omega) (hk3.keep (fun b hb => ⟨by have := hb.1; omega, hb.2⟩) fun _ _ => rfl)).exs
            have HBA : Hid (Below W3.heap.size W3 (W3.alloc (.cells #[.int .u8 (x.op : Int), .string x.name, .slice A3 n3 c3] 30))) := Lib.hid ((Below.refl _ _).alloc (Nat.le_refl _) _)
            have HZ4 := Lib.hid ((HBA.out.block _ (by omega)).trans HZ3.out)
            have HB4 := Lib.hid (belowNext HB3.out HBA.out)
            clear hk3 hb3
            obtain ⟨q0, q1, q2⟩ := three_cells HZ4.out
            have t0 := frozen_of_row _ w.heap.size 0 _ _ HZ4.out
            have t1 := frozen_of_row _ w.heap.size 1 _ _ HZ4.out
            have t2 := frozen_of_row _ w.heap.size 2 _ _ HZ4.out
            have hzq := cell_lt q0
            go_wp2
            obtain ⟨x0, x1⟩ := rr_fin (s[k].toNat : Int) (o := s[k].toNat) (by simp) (s := ⟨#[]⟩) (l := [x]) HB4.out HZ4.out HKN.out
            obtain ⟨y0, y1, y2⟩ := three_cells x0
            refine bodyPost_ret (v := .agg #[.int .u8 (s[k].toNat : Int), .string ⟨#[]⟩, .slice (some ⟨W3.heap.size, 0, none⟩) 1 1]) (by simp [results, Tryd.results41, go_sem, y0, y1, y2]) rfl ?_
            rw [HQ2.out]
            exact x1
          · have l42 : ((s[k].toNat : Int) == 42) = false := by rw [hl]; rfl
            have l43 : ((s[k].toNat : Int) == 43) = true := by rw [hl]; rfl
            have l63 : ((s[k].toNat : Int) == 63) = false := by rw [hl]; rfl
            clear hl
            go_wp2_with fail
            refine HCALL.out.mono ?_
            rintro y W3 ⟨A3, n3, c3, rfl, hk3, hb3⟩
            have hw3 : W2.heap.size ≤ W3.heap.size := hb3.size
            have HZ3 := Lib.hid ((hb3.block _ hzW).trans HZ.out)
            have HB3 := Lib.hid (belowNext HBW.out hb3)
            have HKN : Hid (Exs (W3.alloc (.cells #[.int .u8 (x.op : Int), .string x.name, .slice A3 n3 c3] 30)) (From (w.heap.size + 1) (W3.alloc (.cells #[.int .u8 (x.op : Int), .string x.name, .slice A3 n3 c3] 30)).heap.size) (.slice (some ⟨W3.heap.size, 0, none⟩) 1 1) [x]) := Lib.hid (KRowR.first (by omega) (hk3.keep (fun b hb => ⟨by have := hb.1; omega, hb.2⟩) fun _ _ => rfl)).exs
            have HBA : Hid (Below W3.heap.size W3 (W3.alloc (.cells #[.int .u8 (x.op : Int), .string x.name, .slice A3 n3 c3] 30))) := Lib.hid ((Below.refl _ _).alloc (Nat.le_refl _) _)
            have HZ4 := Lib.hid ((HBA.out.block _ (by omega)).trans HZ3.out)
            have HB4 := Lib.hid (belowNext HB3.out HBA.out)
            clear hk3 hb3
            obtain ⟨q0, q1, q2⟩ := three_cells HZ4.out
            have t0 := frozen_of_row _ w.heap.size 0 _ _ HZ4.out
            have t1 := frozen_of_row _ w.heap.size 1 _ _ HZ4.out
            have t2 := frozen_of_row _ w.heap.size 2 _ _ HZ4.out
            have hzq := cell_lt q0
            go_wp2
            obtain ⟨x0, x1⟩ := rr_fin (s[k].toNat : Int) (o := s[k].toNat) (by simp) (s := ⟨#[]⟩) (l := [x]) HB4.out HZ4.out HKN.out
            obtain ⟨y0, y1, y2⟩ := three_cells x0
            refine bodyPost_ret (v := .agg #[.int .u8 (s[k].toNat : Int), .string ⟨#[]⟩, .slice (some ⟨W3.heap.size, 0, none⟩) 1 1]) (by simp [results, Tryd.results41, go_sem, y0, y1, y2]) rfl ?_
            rw [HQ2.out]
            exact x1
          · have l42 : ((s[k].toNat : Int) == 42) = false := by rw [hl]; rfl
            have l43 : ((s[k].toNat : Int) == 43) = false := by rw [hl]; rfl
            have l63 : ((s[k].toNat : Int) == 63) = true := by rw [hl]; rfl
            clear hl
            go_wp2_with fail
            refine HCALL.out.mono ?_
            rintro y W3 ⟨A3, n3, c3, rfl, hk3, hb3⟩
            have hw3 : W2.heap.size ≤ W3.heap.size := hb3.size
            have HZ3 := Lib.hid ((hb3.block _ hzW).trans HZ.out)
            have HB3 := Lib.hid (belowNext HBW.out hb3)
            have HKN : Hid (Exs (W3.alloc (.cells #[.int .u8 (x.op : Int), .string x.name, .slice A3 n3 c3] 30)) (From (w.heap.size + 1) (W3.alloc (.cells #[.int .u8 (x.op : Int), .string x.name, .slice A3 n3 c3] 30)).heap.size) (.slice (some ⟨W3.heap.size, 0, none⟩) 1 1) [x]) := Lib.hid (KRowR.first (by omega) (hk3.keep (fun b hb => ⟨by have := hb.1; omega, hb.2⟩) fun _ _ => rfl)).exs
            have HBA : Hid (Below W3.heap.size W3 (W3.alloc (.cells #[.int .u8 (x.op : Int), .string x.name, .slice A3 n3 c3] 30))) := Lib.hid ((Below.refl _ _).alloc (Nat.le_refl _) _)
            have HZ4 := Lib.hid ((HBA.out.block _ (by omega)).trans HZ3.out)
            have HB4 := Lib.hid (belowNext HB3.out HBA.out)
            clear hk3 hb3
            obtain ⟨q0, q1, q2⟩ := three_cells HZ4.out
            have t0 := frozen_of_row _ w.heap.size 0 _ _ HZ4.out
            have t1 := frozen_of_row _ w.heap.size 1 _ _ HZ4.out
            have t2 := frozen_of_row _ w.heap.size 2 _ _ HZ4.out
            have hzq := cell_lt q0
            go_wp2
            obtain ⟨x0, x1⟩ := rr_fin (s[k].toNat : Int) (o := s[k].toNat) (by simp) (s := ⟨#[]⟩) (l := [x]) HB4.out HZ4.out HKN.out
            obtain ⟨y0, y1, y2⟩ := three_cells x0
            refine bodyPost_ret (v := .agg #[.int .u8 (s[k].toNat : Int), .string ⟨#[]⟩, .slice (some ⟨W3.heap.size, 0, none⟩) 1 1]) (by simp [results, Tryd.results41, go_sem, y0, y1, y2]) rfl ?_
            rw [HQ2.out]
            exact x1
        | false =>
          have l42 : ((s[k].toNat : Int) == 42) = false := by rw [beq_eq_false_iff_ne]; intro h; have h9 : s[k].toNat = 42 := (by omega); exact absurd (show repE s[k].toNat = true by rw [h9]; rfl) (by rw [hr]; decide)
          have l43 : ((s[k].toNat : Int) == 43) = false := by rw [beq_eq_false_iff_ne]; intro h; have h9 : s[k].toNat = 43 := (by omega); exact absurd (show repE s[k].toNat = true by rw [h9]; rfl) (by rw [hr]; decide)
          have l63 : ((s[k].toNat : Int) == 63) = false := by rw [beq_eq_false_iff_ne]; intro h; have h9 : s[k].toNat = 63 := (by omega); exact absurd (show repE s[k].toNat = true by rw [h9]; rfl) (by rw [hr]; decide)
          rw [hr, if_neg (by decide)] at HQ
          clear hr HEI
          by_cases h4041 : s.data.toList = [40, 41]
          · have e4 : (s.toList == [40, 41]) = true := by rw [Lib.toList_data, h4041]; rfl
            have HQ2 : Hid (readR (n + 1) s.data.toList = .mk 115 ⟨#[]⟩ []) := Lib.hid (by rw [HQ.out, if_pos h4041]; rfl)
            have HK4 : Hid (Exs W2 (From (w.heap.size + 1) W2.heap.size) (.slice none 0 0) []) := Lib.hid (exs_nil _ _)
            clear h4041 HQ
            obtain ⟨q0, q1, q2⟩ := three_cells HZ.out
            have t0 := frozen_of_row _ w.heap.size 0 _ _ HZ.out
            have t1 := frozen_of_row _ w.heap.size 1 _ _ HZ.out
            have t2 := frozen_of_row _ w.heap.size 2 _ _ HZ.out
            have hzq := cell_lt q0
            go_wp2
            obtain ⟨x0, x1⟩ := rr_fin 115 (o := 115) (by simp) (s := ⟨#[]⟩) (l := []) HBW.out HZ.out HK4.out
            obtain ⟨y0, y1, y2⟩ := three_cells x0
            refine bodyPost_ret (v := .agg #[.int .u8 115, .string ⟨#[]⟩, .slice none 0 0]) (by simp [results, Tryd.results41, go_sem, y0, y1, y2]) rfl ?_
            rw [HQ2.out]
            exact x1
          · have e4 : (s.toList == [40, 41]) = false := by rw [Lib.toList_data, beq_eq_false_iff_ne]; exact h4041
            rw [if_neg h4041] at HQ
            clear h4041
            by_cases hp : s[0] = 40 ∧ s[k] = 41
            · have e5 : ((s[0].toNat : Int) == 40) = true := by rw [hp.1]; rfl
              have e6 : ((s[k].toNat : Int) == 41) = true := by rw [hp.2]; rfl
              have HQ2 : Hid (readR (n + 1) s.data.toList = readR n (s.extract 1 k).data.toList) := Lib.hid (by rw [HQ.out, if_pos hp])
              have hk1 : 1 ≤ k := by
                rcases Nat.eq_zero_or_pos k with h | h
                · subst h; have h1 := hp.1; rw [hp.2] at h1; exact absurd h1 (by decide)
                · exact h
              have HCALL : Hid (Calls Tryd.prog 41 #[.string (s.extract 1 k), .int .i64 (m - 1)] W2 (EPost W2 (readR n (s.extract 1 k).data.toList))) := Lib.hid (IH.out (m - 1) (s.extract 1 k) W2 (by have := HM.out; omega) (by omega) (by rw [← list_size, HEM.out, List.length_dropLast, List.length_tail, list_size]; omega))
              clear hp HQ HEM HHD
              generalize readR n (s.extract 1 k).data.toList = x at *
              go_wp2_with fail
              refine HCALL.out.mono ?_
              rintro y W3 ⟨A3, n3, c3, rfl, hk3, hb3⟩
              have hw3 : W2.heap.size ≤ W3.heap.size := hb3.size
              have HZ3 := Lib.hid ((hb3.block _ hzW).trans HZ.out)
              have HB3 := Lib.hid (belowNext HBW.out hb3)
              have HK4 : Hid (Exs W3 (From (w.heap.size + 1) W3.heap.size) (.slice A3 n3 c3) x.kids) := Lib.hid (hk3.keep (fun b hb => ⟨by have := hb.1; omega, hb.2⟩) fun _ _ => rfl)
              have HQ3 : Hid (readR (n + 1) s.data.toList = .mk x.op x.name x.kids) := Lib.hid (by rw [HQ2.out]; obtain ⟨_, _, _⟩ := x; rfl)
              clear hk3 hb3
              obtain ⟨q0, q1, q2⟩ := three_cells HZ3.out
              have t0 := frozen_of_row _ w.heap.size 0 _ _ HZ3.out
              have t1 := frozen_of_row _ w.heap.size 1 _ _ HZ3.out
              have t2 := frozen_of_row _ w.heap.size 2 _ _ HZ3.out
              have hzq := cell_lt q0
              go_wp2
              obtain ⟨x0, x1⟩ := rr_fin (x.op : Int) (o := x.op) (by simp) (s := x.name) (l := x.kids) HB3.out HZ3.out HK4.out
              obtain ⟨y0, y1, y2⟩ := three_cells x0
              refine bodyPost_ret (v := .agg #[.int .u8 (x.op : Int), .string x.name, .slice A3 n3 c3]) (by simp [results, Tryd.results41, go_sem, y0, y1, y2]) rfl ?_
              rw [HQ3.out]
              exact x1
            · have HQ2 : Hid (readR (n + 1) s.data.toList = .mk 110 s []) := Lib.hid (by rw [HQ.out, if_neg hp])
              have HK4 : Hid (Exs W2 (From (w.heap.size + 1) W2.heap.size) (.slice none 0 0) []) := Lib.hid (exs_nil _ _)
              by_cases hp0 : s[0] = 40
              · have e5 : ((s[0].toNat : Int) == 40) = true := by rw [hp0]; rfl
                have e6 : ((s[k].toNat : Int) == 41) = false := by rw [beq_eq_false_iff_ne]; intro h; exact hp ⟨hp0, UInt8.toNat_inj.1 (by simpa using (by omega : s[k].toNat = 41))⟩
                clear hp hp0 HQ
                obtain ⟨q0, q1, q2⟩ := three_cells HZ.out
                have t0 := frozen_of_row _ w.heap.size 0 _ _ HZ.out
                have t1 := frozen_of_row _ w.heap.size 1 _ _ HZ.out
                have t2 := frozen_of_row _ w.heap.size 2 _ _ HZ.out
                have hzq := cell_lt q0
                go_wp2
                obtain ⟨x0, x1⟩ := rr_fin 110 (o := 110) (by simp) (s := s) (l := []) HBW.out HZ.out HK4.out
                obtain ⟨y0, y1, y2⟩ := three_cells x0
                refine bodyPost_ret (v := .agg #[.int .u8 110, .string s, .slice none 0 0]) (by simp [results, Tryd.results41, go_sem, y0, y1, y2]) rfl ?_
                rw [HQ2.out]
                exact x1
              · have e5 : ((s[0].toNat : Int) == 40) = false := by rw [beq_eq_false_iff_ne]; intro h; exact hp0 (UInt8.toNat_inj.1 (by simpa using (by omega : s[0].toNat = 40)))
                clear hp hp0 HQ
                obtain ⟨q0, q1, q2⟩ := three_cells HZ.out
                have t0 := frozen_of_row _ w.heap.size 0 _ _ HZ.out
                have t1 := frozen_of_row _ w.heap.size 1 _ _ HZ.out
                have t2 := frozen_of_row _ w.heap.size 2 _ _ HZ.out
                have hzq := cell_lt q0
                go_wp2
                obtain ⟨x0, x1⟩ := rr_fin 110 (o := 110) (by simp) (s := s) (l := []) HBW.out HZ.out HK4.out
                obtain ⟨y0, y1, y2⟩ := three_cells x0
                refine bodyPost_ret (v := .agg #[.int .u8 110, .string s, .slice none 0 0]) (by simp [results, Tryd.results41, go_sem, y0, y1, y2]) rfl ?_
                rw [HQ2.out]
                exact x1
end Go.Proofs.YtldmimekmjmkgaaDoor

namespace Go.Proofs.YtldmimekmjmkgaaDoor
open Go.RowKit Go.Sort Go.Maps Go.WideMaps

theorem fit_readR : ∀ (n : Nat) (L : List UInt8), L.length ≤ 1000000 → (readR n L).fits
  | 0, _, _ => fit_nul
  | n + 1, L, h => by
    have hmax : (1000000 : Nat) ≤ maxLen := by unfold maxLen; decide
    rw [readR]
    split
    · exact fit_nul
    · split
      · refine ⟨?_, empty_len, ?_⟩
        · unfold partsR; split <;> simp
        · refine fitsAll_of _ fun x hx => ?_
          split at hx
          · obtain ⟨p, hp, rfl⟩ := List.mem_map.1 hx
            refine fit_readR n p ?_
            have h2 : p.length ≤ L.length := by
              unfold partsR at hp
              split at hp
              · have := cutP_sum 32 L 0 [] p hp; simpa using this
              · have := cutP_sum 124 L 0 [] p hp; simpa using this
            omega
          · cases hx
      · split
        · exact ⟨UInt8.toNat_lt _, empty_len, fit_readR n _ (by rw [List.length_dropLast]; omega), trivial⟩
        · split
          · exact ⟨by decide, empty_len, trivial⟩
          · split
            · exact fit_readR n _ (by rw [List.length_dropLast, List.length_tail]; omega)
            · refine ⟨by decide, ?_, trivial⟩
              show (bA L).size ≤ maxLen
              rw [bA_size]; omega
/-- The parts' lengths, and one for each. -/
def lenS (ps : List (List UInt8)) : Nat := (ps.map fun p => p.length + 1).sum
theorem cutP_total (g : UInt8) : ∀ (L : List UInt8) (o : Int) (cur : List UInt8), lenS (cutP g L o cur) = L.length + cur.length + 1
  | [], _, cur => by simp [cutP, lenS]
  | c :: r, o, cur => by
    rw [cutP]
    split
    · have := cutP_total g r (lvl o c) []
      simp only [lenS, List.map_cons, List.sum_cons, List.length_cons, List.length_nil] at this ⊢; omega
    · have := cutP_total g r (lvl o c) (cur ++ [c])
      simp only [List.length_cons, List.length_append, List.length_nil] at this ⊢; omega
theorem sizes_parts {f : List UInt8 → Ex} (hf : ∀ p, sizeE (f p) ≤ 3 * p.length + 1) : ∀ ps : List (List UInt8), sizeEs (ps.map f) + 2 * ps.length ≤ 3 * lenS ps
  | [] => by simp [sizeEs, lenS]
  | p :: ps => by
    have h1 := hf p
    have h2 := sizes_parts hf ps
    simp only [List.map_cons, sizeEs, lenS, List.sum_cons, List.length_cons] at h2 ⊢; omega
theorem size_readR : ∀ (n : Nat) (L : List UInt8), sizeE (readR n L) ≤ 3 * L.length + 1
  | 0, _ => by rw [readR]; unfold nulE; simp [sizeE, sizeEs]
  | n + 1, L => by
    rw [readR]
    split
    · unfold nulE; simp [sizeE, sizeEs]
    · rename_i h0
      have hL : 1 ≤ L.length := by cases L with | nil => exact absurd rfl h0 | cons c t => simp
      split
      · rename_i h1
        have h2 : lenS (partsR L).2 = L.length + 1 := by unfold partsR; split <;> (rw [cutP_total]; simp)
        have h3 := sizes_parts (size_readR n) (partsR L).2
        split
        · rw [sizeE]; omega
        · rw [sizeE, sizeEs]; omega
      · split
        · have h4 := size_readR n L.dropLast
          rw [List.length_dropLast] at h4
          rw [sizeE, sizeEs, sizeEs]; omega
        · split
          · rw [sizeE, sizeEs]; omega
          · split
            · have h4 := size_readR n L.tail.dropLast
              rw [List.length_dropLast, List.length_tail] at h4
              omega
            · rw [sizeE, sizeEs]; omega

set_option maxHeartbeats 2000000 in
theorem rprint_any (e : Ex) (A : Option Addr) (n c : Nat) (w : World) (he : e.fits) (hsz : sizeE e ≤ 1100000) (hl : Exs w (Under w.heap.size) (.slice A n c) e.kids) :
    Calls Tryd.prog 15 #[.agg #[.int .u8 e.op, .string e.name, .slice A n c]] w fun x w' => x = .returned (.tuple #[.string (printE e).1, .int .i64 (printE e).2]) ∧ Below w.heap.size w w' := by
  have HA := Lib.hid hl
  have HB : Hid (Below w.heap.size w (w.alloc (.cells #[.int .u8 e.op, .string e.name, .slice A n c] 30))) := Lib.hid ((Below.refl _ _).alloc (Nat.le_refl _) _)
  have HBX : Hid ((w.alloc (.cells #[.int .u8 e.op, .string e.name, .slice A n c] 30)).heap[w.heap.size]? = some (.cells #[.int .u8 e.op, .string e.name, .slice A n c] 30)) := Lib.hid (heap_new _ _)
  clear hl
  go_enter Tryd.func15, Tryd.ntmps15
  go_wp2_with fail
  generalize w.alloc (.cells #[.int .u8 e.op, .string e.name, .slice A n c] 30) = W1 at *
  have hz1 : w.heap.size < W1.heap.size := (Array.getElem?_eq_some_iff.1 HBX.out).1
  refine (rright_any e A n c W1.heap.size W1 he hsz ((HA.out.below HB.out).more HB.out.size) (Nat.le_refl _)).mono ?_
  rintro x w2 ⟨rfl, hb2⟩
  have HB2 := Lib.hid (HB.out.trans (hb2.mono HB.out.size))
  have HBX2 := Lib.hid ((hb2.block _ hz1).trans HBX.out)
  have hz2 : w.heap.size < w2.heap.size := (Array.getElem?_eq_some_iff.1 HBX2.out).1
  clear hb2 HB HBX hz1
  generalize hr : rightE okN e = r at *
  have HRE := Lib.hid hr
  clear hr
  cases r with
  | false =>
    have HP : Hid (printE e = (⟨#[]⟩, 2)) := Lib.hid (by unfold printE; rw [HRE.out]; rfl)
    go_wp2
    go_ret2
    exact ⟨by rw [HP.out]; rfl, HB2.out⟩
  | true =>
    have HP : Hid (printE e = (writeE e, 0)) := Lib.hid (by unfold printE; rw [HRE.out]; rfl)
    obtain ⟨k0, k1, k2⟩ := three_cells HBX2.out
    have hrt := HRE.out
    unfold rightE at hrt
    rw [Bool.and_eq_true, decide_eq_true_iff] at hrt
    go_wp2_with fail
    refine (rwrite_walk e A n c w2.heap.size w2 he hrt.1 hrt.2 ((HA.out.below HB2.out).more HB2.out.size) (Nat.le_refl _)).mono ?_
    rintro x w3 ⟨rfl, hb3⟩
    have HB3 := Lib.hid (HB2.out.trans (hb3.mono HB2.out.size))
    clear hb3 hrt
    go_wp2
    go_ret2
    exact ⟨by rw [HP.out]; rfl, HB3.out⟩

/-- What the document's Parse answers. -/
def parseR (s : ByteArray) : Ex × Int := if rightE okN (readR 100 s.data.toList) = true ∧ writeE (readR 100 s.data.toList) = s then (readR 100 s.data.toList, 0) else (nulE, 2)
/-- Both read alike. -/
theorem parse_same (s : ByteArray) : parseR s = parseE s := by
  unfold parseR parseE
  by_cases h : ∃ e, rightE okN e = true ∧ writeE e = s
  · obtain ⟨e, h1, h2⟩ := h
    have e1 : readR 100 s.data.toList = e := by rw [← h2]; exact readR_write h1
    have e2 : readE s.data.toList = e := by rw [← h2]; exact read_write h1
    rw [e1, e2]
  · rw [if_neg (fun h1 => h ⟨_, h1⟩), if_neg (fun h1 => h ⟨_, h1⟩)]
theorem rparse_fin {w W : World} {e : Ex} {A : Option Addr} {n c : Nat} {u0 u1 u2 : Value} (hB : Below w.heap.size w W) (hz : W.heap[w.heap.size]? = some (.cells #[u0, u1, u2] 30)) (hk : Exs W (From (w.heap.size + 1) W.heap.size) (.slice A n c) e.kids) (r : Int) :
    (((W.setCell ⟨w.heap.size, 0, none⟩ (.int .u8 (e.op : Int))).setCell ⟨w.heap.size, 1, none⟩ (.string e.name)).setCell ⟨w.heap.size, 2, none⟩ (.slice A n c)).heap[w.heap.size]? = some (.cells #[.int .u8 (e.op : Int), .string e.name, .slice A n c] 30) ∧
    PEPost w (e, r) (.returned (.tuple #[.agg #[.int .u8 (e.op : Int), .string e.name, .slice A n c], .int .i64 r])) (((W.setCell ⟨w.heap.size, 0, none⟩ (.int .u8 (e.op : Int))).setCell ⟨w.heap.size, 1, none⟩ (.string e.name)).setCell ⟨w.heap.size, 2, none⟩ (.slice A n c)) := by
  obtain ⟨x0, hx, hzz⟩ := put3x (v0 := .int .u8 (e.op : Int)) (v1 := .string e.name) (v2 := .slice A n c) hz
  refine ⟨x0, A, n, c, rfl, hk.keep (fun b hb => ⟨by have := hb.1; omega, by rw [hzz]; exact hb.2⟩) fun b hb => hx b (by have := hb.1; omega), hB.os, hB.tape, hB.output, by rw [hzz]; exact hB.size, fun b hb => (hx b (by omega)).trans (hB.block b hb)⟩

theorem rparse_nul {w W : World} {u0 u1 u2 : Value} (hB : Below w.heap.size w W) (hz : W.heap[w.heap.size]? = some (.cells #[u0, u1, u2] 30)) :
    (((W.setCell ⟨w.heap.size, 0, none⟩ (.int .u8 0)).setCell ⟨w.heap.size, 1, none⟩ (.string ⟨#[]⟩)).setCell ⟨w.heap.size, 2, none⟩ (.slice none 0 0)).heap[w.heap.size]? = some (.cells #[.int .u8 0, .string ⟨#[]⟩, .slice none 0 0] 30) ∧
    PEPost w (nulE, 2) (.returned (.tuple #[.agg #[.int .u8 0, .string ⟨#[]⟩, .slice none 0 0], .int .i64 2])) (((W.setCell ⟨w.heap.size, 0, none⟩ (.int .u8 0)).setCell ⟨w.heap.size, 1, none⟩ (.string ⟨#[]⟩)).setCell ⟨w.heap.size, 2, none⟩ (.slice none 0 0)) :=
  rparse_fin (e := nulE) hB hz (exs_nil W _) 2

set_option maxRecDepth 100000 in
set_option maxHeartbeats 4000000 in
theorem rparse_any (s : ByteArray) (w : World) (hs : s.size ≤ 1000) :
    Calls Tryd.prog 27 #[.string s] w (PEPost w (parseR s)) := by
  have HF := Lib.hid (fit_readR 100 s.data.toList (by rw [list_size]; omega))
  have HZZ := Lib.hid (Nat.le_trans (size_readR 100 s.data.toList) (show 3 * s.data.toList.length + 1 ≤ 1100000 by rw [list_size]; omega))
  have HB : Hid (Below w.heap.size w (w.alloc (.cells #[.int .u8 0, .string ⟨#[]⟩, .slice none 0 0] 30))) := Lib.hid ((Below.refl _ _).alloc (Nat.le_refl _) _)
  have HZB : Hid ((w.alloc (.cells #[.int .u8 0, .string ⟨#[]⟩, .slice none 0 0] 30)).heap[w.heap.size]? = some (.cells #[.int .u8 0, .string ⟨#[]⟩, .slice none 0 0] 30)) := Lib.hid (heap_new _ _)
  go_enter Tryd.func27, Tryd.ntmps27
  go_wp2_with fail
  generalize w.alloc (.cells #[.int .u8 0, .string ⟨#[]⟩, .slice none 0 0] 30) = W1 at *
  have hz1 : w.heap.size < W1.heap.size := (Array.getElem?_eq_some_iff.1 HZB.out).1
  refine (rread_walk 100 100 s W1 rfl (Nat.le_refl _) hs).mono ?_
  rintro x w2 ⟨A, k, c, rfl, hk2, hb2⟩
  have HQ : Hid (parseR s = if rightE okN (readR 100 s.data.toList) = true ∧ writeE (readR 100 s.data.toList) = s then (readR 100 s.data.toList, 0) else (nulE, 2)) := Lib.hid rfl
  generalize readR 100 s.data.toList = e at *
  have hw2 : W1.heap.size ≤ w2.heap.size := hb2.size
  have HZ2 : Hid (w2.heap[w.heap.size]? = some (.cells #[.int .u8 0, .string ⟨#[]⟩, .slice none 0 0] 30)) := Lib.hid ((hb2.block _ hz1).trans HZB.out)
  have HK2 : Hid (Exs w2 (From (w.heap.size + 1) w2.heap.size) (.slice A k c) e.kids) := Lib.hid (hk2.keep (fun b hb => ⟨by have := hb.1; omega, hb.2⟩) fun _ _ => rfl)
  have HB2 : Hid (Below w.heap.size w w2) := Lib.hid (belowNext HB.out hb2)
  clear hk2 hb2 HZB HB
  have HB3 : Hid (Below w2.heap.size w2 (w2.alloc (.cells #[.int .u8 (e.op : Int), .string e.name, .slice A k c] 30))) := Lib.hid ((Below.refl _ _).alloc (Nat.le_refl _) _)
  have HN3 : Hid ((w2.alloc (.cells #[.int .u8 (e.op : Int), .string e.name, .slice A k c] 30)).heap[w2.heap.size]? = some (.cells #[.int .u8 (e.op : Int), .string e.name, .slice A k c] 30)) := Lib.hid (heap_new _ _)
  go_wp2_with fail
  generalize hW : w2.alloc (.cells #[.int .u8 (e.op : Int), .string e.name, .slice A k c] 30) = W3 at *
  have HK3 := Lib.hid (HK2.out.keep (fun b hb => (show b < W3.heap.size from Nat.lt_of_lt_of_le hb.2 HB3.out.size)) fun b hb => HB3.out.block b hb.2)
  clear hW
  refine (rprint_any e A k c W3 HF.out HZZ.out HK3.out).mono ?_
  rintro x w4 ⟨rfl, hb4⟩
  have hw3 : w2.heap.size < W3.heap.size := (Array.getElem?_eq_some_iff.1 HN3.out).1
  have HN4 := Lib.hid ((hb4.block _ hw3).trans HN3.out)
  have HB4 : Hid (Below w.heap.size w w4) := Lib.hid (belowNext HB2.out (belowNext HB3.out hb4))
  have hw4 : W3.heap.size ≤ w4.heap.size := hb4.size
  have HZ4 : Hid (w4.heap[w.heap.size]? = _) := Lib.hid ((hb4.block _ (by omega)).trans ((HB3.out.block _ (by omega)).trans HZ2.out))
  have HK4 : Hid (Exs w4 (From (w.heap.size + 1) w4.heap.size) (.slice A k c) e.kids) := Lib.hid (HK2.out.keep (fun b hb => ⟨hb.1, by have := hb.2; omega⟩) fun b hb => (hb4.block b (by have := hb.2; omega)).trans (HB3.out.block b hb.2))
  have hne : w.heap.size ≠ w2.heap.size := by omega
  clear hb4 HN3 HB3 HB2 HZ2 HK2 HK3 hw3
  cases hre : rightE okN e with
  | false =>
    have hP : printE e = (⟨#[]⟩, 2) := by unfold printE; rw [hre]; rfl
    have HQ2 : Hid (parseR s = (nulE, 2)) := Lib.hid (by rw [HQ.out, hre]; simp)
    rw [hP]
    clear hP HQ hre
    obtain ⟨q0, q1, q2⟩ := three_cells HZ4.out
    have t0 := frozen_of_row _ w.heap.size 0 _ _ HZ4.out
    have t1 := frozen_of_row _ w.heap.size 1 _ _ HZ4.out
    have t2 := frozen_of_row _ w.heap.size 2 _ _ HZ4.out
    obtain ⟨d0, d1, d2⟩ := three_cells HN4.out
    have hzq := cell_lt q0
    have hzd := cell_lt d0
    go_wp2
    obtain ⟨x0, x1⟩ := rparse_nul HB4.out HZ4.out
    obtain ⟨y0, y1, y2⟩ := three_cells x0
    refine bodyPost_ret (v := .tuple #[.agg #[.int .u8 0, .string ⟨#[]⟩, .slice none 0 0], .int .i64 2]) (by simp [results, Tryd.results27, go_sem, y0, y1, y2]) rfl ?_
    rw [HQ2.out]
    exact x1
  | true =>
    have hP : printE e = (writeE e, 0) := by unfold printE; rw [hre]; rfl
    rw [hP]
    clear hP
    by_cases hes : writeE e = s
    · have HQ2 : Hid (parseR s = (e, 0)) := Lib.hid (by rw [HQ.out, if_pos ⟨hre, hes⟩])
      have hse : ((writeE e).toList == s.toList) = true := by rw [hes]; simp
      clear HQ hre hes
      generalize writeE e = S at *
      obtain ⟨q0, q1, q2⟩ := three_cells HZ4.out
      have t0 := frozen_of_row _ w.heap.size 0 _ _ HZ4.out
      have t1 := frozen_of_row _ w.heap.size 1 _ _ HZ4.out
      have t2 := frozen_of_row _ w.heap.size 2 _ _ HZ4.out
      obtain ⟨d0, d1, d2⟩ := three_cells HN4.out
      have hzq := cell_lt q0
      have hzd := cell_lt d0
      go_wp2
      obtain ⟨x0, x1⟩ := rparse_fin (e := e) HB4.out HZ4.out HK4.out 0
      obtain ⟨y0, y1, y2⟩ := three_cells x0
      refine bodyPost_ret (v := .tuple #[.agg #[.int .u8 (e.op : Int), .string e.name, .slice A k c], .int .i64 0]) (by simp [results, Tryd.results27, go_sem, y0, y1, y2]) rfl ?_
      rw [HQ2.out]
      exact x1
    · have HQ2 : Hid (parseR s = (nulE, 2)) := Lib.hid (by rw [HQ.out, if_neg (fun h => hes h.2)])
      have hse : ((writeE e).toList == s.toList) = false := by
        rw [beq_eq_false_iff_ne]
        intro h
        rw [Lib.toList_data, Lib.toList_data] at h
        exact hes (bytesE_of h)
      clear HQ hre hes
      generalize writeE e = S at *
      obtain ⟨q0, q1, q2⟩ := three_cells HZ4.out
      have t0 := frozen_of_row _ w.heap.size 0 _ _ HZ4.out
      have t1 := frozen_of_row _ w.heap.size 1 _ _ HZ4.out
      have t2 := frozen_of_row _ w.heap.size 2 _ _ HZ4.out
      obtain ⟨d0, d1, d2⟩ := three_cells HN4.out
      have hzq := cell_lt q0
      have hzd := cell_lt d0
      go_wp2
      obtain ⟨x0, x1⟩ := rparse_nul HB4.out HZ4.out
      obtain ⟨y0, y1, y2⟩ := three_cells x0
      refine bodyPost_ret (v := .tuple #[.agg #[.int .u8 0, .string ⟨#[]⟩, .slice none 0 0], .int .i64 2]) (by simp [results, Tryd.results27, go_sem, y0, y1, y2]) rfl ?_
      rw [HQ2.out]
      exact x1
end Go.Proofs.YtldmimekmjmkgaaDoor

namespace Go.Proofs.YtldmimekmjmkgaaDoor
open Go.RowKit

/-- A part of a row. -/
def seg (word : List ByteArray) (i j : Nat) : List ByteArray := (word.drop i).take (j - i)
theorem seg_len {word : List ByteArray} {i j : Nat} (_hi : i ≤ j) (hj : j ≤ word.length) : (seg word i j).length = j - i := by
  unfold seg; rw [List.length_take, List.length_drop]; omega
theorem seg_all (word : List ByteArray) : seg word 0 word.length = word := by unfold seg; simp
theorem seg_split {word : List ByteArray} {i k j : Nat} (h1 : i ≤ k) (h2 : k ≤ j) : seg word i j = seg word i k ++ seg word k j := by
  unfold seg
  rw [show j - i = (k - i) + (j - k) by omega, List.take_add, List.drop_drop, show i + (k - i) = k by omega]
theorem seg_app {word u v : List ByteArray} {i j : Nat} (hi : i ≤ j) (hj : j ≤ word.length) (h : seg word i j = u ++ v) : i + u.length ≤ j ∧ u = seg word i (i + u.length) ∧ v = seg word (i + u.length) j := by
  have hl := seg_len hi hj
  rw [h, List.length_append] at hl
  have h1 : i + u.length ≤ j := by omega
  have h2 := seg_split (word := word) (Nat.le_add_right i u.length) h1
  rw [h] at h2
  have h3 : (seg word i (i + u.length)).length = u.length := by rw [seg_len (by omega) (by omega)]; omega
  obtain ⟨h4, h5⟩ := List.append_inj h2 h3.symm
  exact ⟨h1, h4, h5⟩
theorem seg_nil {word : List ByteArray} {i j : Nat} (hi : i ≤ j) (hj : j ≤ word.length) : seg word i j = [] ↔ i = j := by
  have hl := seg_len hi hj
  constructor
  · intro h; rw [h] at hl; simp at hl; omega
  · rintro rfl; exact List.eq_nil_of_length_eq_zero (by omega)
theorem seg_one {word : List ByteArray} {i j : Nat} {s : ByteArray} (hi : i ≤ j) (hj : j ≤ word.length) : seg word i j = [s] ↔ j = i + 1 ∧ word[i]? = some s := by
  have hl := seg_len hi hj
  constructor
  · intro h
    rw [h] at hl
    simp only [List.length_cons, List.length_nil] at hl
    have hj1 : j = i + 1 := by omega
    subst hj1
    have h2 : (seg word i (i + 1))[0]? = some s := by rw [h]; rfl
    unfold seg at h2
    rw [List.getElem?_take, if_pos (by omega), List.getElem?_drop] at h2
    exact ⟨rfl, h2⟩
  · rintro ⟨rfl, h⟩
    unfold seg
    rw [show i + 1 - i = 0 + 1 by omega, List.take_add_one, List.take_zero, List.getElem?_drop]
    rw [show i + 0 = i from rfl, h]
    rfl
/-- bs are the places where a row of L may end that begins at one of those of st. -/
def EndsBy (L : Rws) (word : List ByteArray) (st bs : List Bool) : Prop :=
  bs.length = word.length + 1 ∧ ∀ j, j ≤ word.length → (bs.getD j false = true ↔ ∃ i, i ≤ j ∧ st.getD i false = true ∧ L (seg word i j))
theorem EndsBy.congr {L L' : Rws} {word : List ByteArray} {st bs : List Bool} (h : EndsBy L word st bs) (hL : ∀ u, u.length ≤ word.length → (L u ↔ L' u)) : EndsBy L' word st bs :=
  ⟨h.1, fun j hj => (h.2 j hj).trans ⟨fun ⟨i, h1, h2, h3⟩ => ⟨i, h1, h2, (hL _ (by rw [seg_len h1 hj]; omega)).1 h3⟩, fun ⟨i, h1, h2, h3⟩ => ⟨i, h1, h2, (hL _ (by rw [seg_len h1 hj]; omega)).2 h3⟩⟩⟩
theorem ends_id {word : List ByteArray} {st : List Bool} (h : st.length = word.length + 1) : EndsBy (fun w => w = []) word st st := by
  refine ⟨h, fun j hj => ⟨fun h => ⟨j, Nat.le_refl _, h, (seg_nil (Nat.le_refl _) hj).2 rfl⟩, ?_⟩⟩
  rintro ⟨i, h1, h2, h3⟩
  obtain rfl := (seg_nil h1 hj).1 h3
  exact h2
theorem ends_cat {A B : Rws} {word : List ByteArray} {st b c : List Bool} (h1 : EndsBy A word st b) (h2 : EndsBy B word b c) : EndsBy (lCat A B) word st c := by
  refine ⟨h2.1, fun j hj => (h2.2 j hj).trans ⟨?_, ?_⟩⟩
  · rintro ⟨k, hk, hb, hB⟩
    obtain ⟨i, hi, ha, hA⟩ := (h1.2 k (by omega)).1 hb
    exact ⟨i, by omega, ha, _, _, seg_split hi hk, hA, hB⟩
  · rintro ⟨i, hi, ha, u, v, huv, hA, hB⟩
    obtain ⟨h3, h4, h5⟩ := seg_app hi hj huv
    exact ⟨i + u.length, h3, (h1.2 _ (by omega)).2 ⟨i, by omega, ha, h4 ▸ hA⟩, h5 ▸ hB⟩
theorem ends_or {A B : Rws} {word : List ByteArray} {st b c d : List Bool} (h1 : EndsBy A word st b) (h2 : EndsBy B word st c) (hd : d.length = b.length) (h : ∀ j, j < d.length → d.getD j false = (b.getD j false || c.getD j false)) : EndsBy (fun w => A w ∨ B w) word st d := by
  refine ⟨hd.trans h1.1, fun j hj => ?_⟩
  rw [h j (by rw [hd, h1.1]; omega), Bool.or_eq_true, h1.2 j hj, h2.2 j hj]
  constructor
  · rintro (⟨i, a, b, c⟩ | ⟨i, a, b, c⟩)
    · exact ⟨i, a, b, .inl c⟩
    · exact ⟨i, a, b, .inr c⟩
  · rintro ⟨i, a, b, c | c⟩
    · exact .inl ⟨i, a, b, c⟩
    · exact .inr ⟨i, a, b, c⟩
theorem ends_none {word : List ByteArray} {st d : List Bool} (hd : d.length = word.length + 1) (h : ∀ j, d.getD j false = false) : EndsBy (fun _ => False) word st d :=
  ⟨hd, fun j _ => by rw [h j]; simp⟩
theorem ends_name {s : ByteArray} {word : List ByteArray} {st d : List Bool} (hd : d.length = word.length + 1) (h0 : d.getD 0 false = false) (h : ∀ i x, word[i]? = some x → (d.getD (i + 1) false = true ↔ st.getD i false = true ∧ x = s)) : EndsBy (fun w => w = [s]) word st d := by
  refine ⟨hd, fun j hj => ?_⟩
  cases j with
  | zero =>
    rw [h0]
    constructor
    · intro h; cases h
    · rintro ⟨i, hi, _, h3⟩
      have := ((seg_one hi hj).1 h3).1
      omega
  | succ i =>
    obtain ⟨x, hx⟩ : ∃ x, word[i]? = some x := ⟨_, List.getElem?_eq_getElem (by omega)⟩
    rw [h i x hx]
    constructor
    · rintro ⟨h1, rfl⟩
      exact ⟨i, by omega, h1, (seg_one (by omega) hj).2 ⟨rfl, hx⟩⟩
    · rintro ⟨k, hk, h1, h2⟩
      obtain ⟨h3, h4⟩ := (seg_one hk hj).1 h2
      obtain rfl : i = k := by omega
      rw [hx] at h4
      exact ⟨h1, Option.some.inj h4⟩
theorem lCat_nil_left {A : Rws} {w : List ByteArray} : lCat (fun w => w = []) A w ↔ A w :=
  ⟨fun ⟨u, v, h1, h2, h3⟩ => by subst h2; rw [h1]; exact h3, fun h => ⟨[], w, rfl, rfl, h⟩⟩
theorem lCat_nil_right {A : Rws} {w : List ByteArray} : lCat A (fun w => w = []) w ↔ A w :=
  ⟨fun ⟨u, v, h1, h2, h3⟩ => by subst h3; rw [h1, List.append_nil]; exact h2, fun h => ⟨w, [], (List.append_nil _).symm, h, rfl⟩⟩
theorem lCat_assoc {A B C : Rws} {w : List ByteArray} : lCat (lCat A B) C w ↔ lCat A (lCat B C) w := by
  constructor
  · rintro ⟨u, v, rfl, ⟨a, b, rfl, ha, hb⟩, hc⟩
    exact ⟨a, b ++ v, List.append_assoc .., ha, b, v, rfl, hb, hc⟩
  · rintro ⟨a, x, rfl, ha, b, v, rfl, hb, hc⟩
    exact ⟨a ++ b, v, (List.append_assoc ..).symm, ⟨a, b, rfl, ha, hb⟩, hc⟩
theorem lCat_congr {A A' B B' : Rws} (hA : ∀ w, A w ↔ A' w) (hB : ∀ w, B w ↔ B' w) (w : List ByteArray) : lCat A B w ↔ lCat A' B' w :=
  ⟨fun ⟨u, v, h1, h2, h3⟩ => ⟨u, v, h1, (hA u).1 h2, (hB v).1 h3⟩, fun ⟨u, v, h1, h2, h3⟩ => ⟨u, v, h1, (hA u).2 h2, (hB v).2 h3⟩⟩
theorem langSeq_end (x : Ex) : ∀ (l : List Ex) (w : List ByteArray), langSeq (l ++ [x]) w ↔ lCat (langSeq l) (lang x) w
  | [], w => by
    rw [List.nil_append, langSeq, langSeq]
    exact lCat_nil_right.trans lCat_nil_left.symm
  | y :: l, w => by
    rw [List.cons_append, langSeq, langSeq]
    exact (lCat_congr (fun _ => Iff.rfl) (langSeq_end x l) w).trans lCat_assoc.symm
theorem langAlt_end (x : Ex) : ∀ (l : List Ex) (w : List ByteArray), langAlt (l ++ [x]) w ↔ langAlt l w ∨ lang x w
  | [], w => by
    show lang x w ∨ langAlt [] w ↔ langAlt [] w ∨ lang x w
    exact or_comm
  | y :: l, w => by
    rw [List.cons_append, langAlt, langAlt]
    simp only [langAlt_end x l w, or_assoc]
/-- So many rows, one behind the other. -/
def powL (A : Rws) : Nat → Rws
  | 0 => fun w => w = []
  | k + 1 => lCat (powL A k) A
theorem powL_left (A : Rws) : ∀ (k : Nat) (w : List ByteArray), powL A (k + 1) w ↔ lCat A (powL A k) w
  | 0, _ => lCat_nil_left.trans lCat_nil_right.symm
  | k + 1, w => (lCat_congr (powL_left A k) (fun _ => Iff.rfl) w).trans lCat_assoc
/-- From lo to k of them. -/
def upL (A : Rws) (lo k : Nat) : Rws := fun w => ∃ m, lo ≤ m ∧ m ≤ k ∧ powL A m w
theorem upL_next {A : Rws} {lo k : Nat} (h : lo ≤ k + 1) (w : List ByteArray) : upL A lo k w ∨ powL A (k + 1) w ↔ upL A lo (k + 1) w := by
  constructor
  · rintro (⟨m, h1, h2, h3⟩ | h3)
    · exact ⟨m, h1, by omega, h3⟩
    · exact ⟨k + 1, h, Nat.le_refl _, h3⟩
  · rintro ⟨m, h1, h2, h3⟩
    by_cases e : m = k + 1
    · subst e; exact .inr h3
    · exact .inl ⟨m, h1, by omega, h3⟩
theorem pow_star {A : Rws} : ∀ (k : Nat) (w : List ByteArray), powL A k w → lStar A w
  | 0, w, h => by obtain rfl : w = [] := h; exact .nil
  | k + 1, w, h => by
    obtain ⟨u, v, rfl, h1, h2⟩ := h
    exact lStar_app (pow_star k u h1) (lStar_one h2)
theorem star_pow {A : Rws} {w : List ByteArray} (h : lStar A w) : ∃ m, m ≤ w.length ∧ powL A m w := by
  induction h with
  | nil => exact ⟨0, Nat.le_refl _, rfl⟩
  | @app u v hu _ ih =>
    obtain ⟨m, h1, h2⟩ := ih
    cases u with
    | nil => exact ⟨m, h1, h2⟩
    | cons c u => exact ⟨m + 1, by simp only [List.length_append, List.length_cons]; omega, (powL_left A m _).2 ⟨c :: u, v, rfl, hu, h2⟩⟩
theorem up_star {A : Rws} {n : Nat} {w : List ByteArray} (h : w.length ≤ n) : upL A 0 (n + 1) w ↔ lStar A w :=
  ⟨fun ⟨m, _, _, h3⟩ => pow_star m w h3, fun h2 => by obtain ⟨m, h1, h3⟩ := star_pow h2; exact ⟨m, Nat.zero_le _, by omega, h3⟩⟩
theorem up_plus {A : Rws} {n : Nat} {w : List ByteArray} (h : w.length ≤ n) : upL A 1 (n + 1) w ↔ lCat A (lStar A) w := by
  constructor
  · rintro ⟨m, h1, _, h3⟩
    obtain ⟨m, rfl⟩ : ∃ k, m = k + 1 := ⟨m - 1, by omega⟩
    obtain ⟨u, v, rfl, h4, h5⟩ := (powL_left A m w).1 h3
    exact ⟨u, v, rfl, h4, pow_star m v h5⟩
  · rintro ⟨u, v, rfl, h4, h5⟩
    obtain ⟨m, h1, h3⟩ := star_pow h5
    rw [List.length_append] at h
    exact ⟨m + 1, by omega, by omega, (powL_left A m _).2 ⟨u, v, rfl, h4, h3⟩⟩
theorem up_opt {A : Rws} (w : List ByteArray) : upL A 0 1 w ↔ w = [] ∨ A w := by
  constructor
  · rintro ⟨m, _, h2, h3⟩
    match m, h2, h3 with
    | 0, _, h3 => exact .inl h3
    | 1, _, h3 => exact .inr (lCat_nil_left.1 h3)
  · rintro (h | h)
    · exact ⟨0, Nat.le_refl _, by omega, h⟩
    · exact ⟨1, by omega, Nat.le_refl _, lCat_nil_left.2 h⟩
end Go.Proofs.YtldmimekmjmkgaaDoor

namespace Go.Proofs.YtldmimekmjmkgaaDoor
open Go.RowKit Go.Sort Go.Maps Go.WideMaps

/-- A row of truth values as it is read. -/
def BRow (w : World) (v : Value) (bs : List Bool) : Prop :=
  ∃ g c, v = .slice (some ⟨g, 0, none⟩) bs.length c ∧ bs.length ≤ c ∧ c ≤ maxLen ∧ g < w.heap.size ∧ ∀ j, j < bs.length → w.cell? ⟨g, j, none⟩ = some (.bool (bs.getD j false))
theorem BRow.keep {w w' : World} {v : Value} {bs : List Bool} (h : BRow w v bs) (hb : Below w.heap.size w w') : BRow w' v bs := by
  obtain ⟨g, c, h1, h2, h3, h4, h5⟩ := h
  exact ⟨g, c, h1, h2, h3, Nat.lt_of_lt_of_le h4 hb.size, fun j hj => cell_kept (h5 j hj) hb⟩
/-- A row that is being made: its first k are told. -/
def BPart (w : World) (g n k : Nat) (f : Nat → Bool) : Prop := ∃ cur, w.heap[g]? = some (.cells cur 4 (0, 0)) ∧ cur.size = n ∧ ∀ j, j < n → cur[j]? = some (.bool (decide (j < k) && f j))
theorem BPart.next {w : World} {g n k : Nat} {f : Nat → Bool} {b : Bool} (h : BPart w g n k f) (hk : k < n) (hb : b = f k) : BPart (w.setCell ⟨g, k, none⟩ (.bool b)) g n (k + 1) f := by
  obtain ⟨cur, h1, h2, h3⟩ := h
  refine ⟨_, heap_setCell_same w g k _ _ _ h1, by simpa using h2, fun j hj => ?_⟩
  by_cases e : k = j
  · subst e
    rw [Array.getElem?_setIfInBounds_self_of_lt (by omega), hb, decide_eq_true (by omega), Bool.true_and]
  · rw [Array.getElem?_setIfInBounds_ne e, h3 j hj]
    have : decide (j < k) = decide (j < k + 1) := by simp only [decide_eq_decide]; omega
    rw [this]
theorem BPart.one {w : World} {g n : Nat} {f : Nat → Bool} (h : BPart w g n 0 f) (h0 : f 0 = false) : BPart w g n 1 f := by
  obtain ⟨cur, h1, h2, h3⟩ := h
  refine ⟨cur, h1, h2, fun j hj => ?_⟩
  rw [h3 j hj]
  cases j with
  | zero => rw [h0]; simp
  | succ j => simp
theorem BPart.keep {w w' : World} {g n k : Nat} {f : Nat → Bool} (h : BPart w g n k f) (hb : w'.heap[g]? = w.heap[g]?) : BPart w' g n k f := by
  obtain ⟨cur, h1, h2⟩ := h
  exact ⟨cur, hb.trans h1, h2⟩
theorem BPart.lt {w : World} {g n k : Nat} {f : Nat → Bool} (h : BPart w g n k f) : g < w.heap.size := by
  obtain ⟨cur, h1, _⟩ := h
  exact (Array.getElem?_eq_some_iff.1 h1).1
theorem BPart.cell {w : World} {g n k : Nat} {f : Nat → Bool} (h : BPart w g n k f) {j : Nat} (hj : j < n) : w.cell? ⟨g, j, none⟩ = some (.bool (decide (j < k) && f j)) := by
  obtain ⟨cur, h1, _, h3⟩ := h
  simp [World.cell?, show w.heap[g]? = _ from h1, h3 j hj]
theorem BPart.free {w : World} {g n k : Nat} {f : Nat → Bool} (h : BPart w g n k f) (j : Nat) : w.frozen? ⟨g, j, none⟩ = false := by
  obtain ⟨cur, h1, _⟩ := h
  exact frozen_of_row w g j _ _ h1
def listB (n : Nat) (f : Nat → Bool) : List Bool := (List.range n).map f
theorem listB_len (n : Nat) (f : Nat → Bool) : (listB n f).length = n := by unfold listB; simp
theorem listB_get {n : Nat} {f : Nat → Bool} {j : Nat} (hj : j < n) : (listB n f).getD j false = f j := by
  unfold listB
  rw [List.getD_eq_getElem?_getD, List.getElem?_map, List.getElem?_range hj]; rfl
theorem BPart.done {w : World} {g n k c : Nat} {f : Nat → Bool} (h : BPart w g n k f) (hk : n ≤ k) (hc : n ≤ c) (hm : c ≤ maxLen) : BRow w (.slice (some ⟨g, 0, none⟩) n c) (listB n f) := by
  refine ⟨g, c, by rw [listB_len], by rw [listB_len]; exact hc, hm, h.lt, fun j hj => ?_⟩
  rw [listB_len] at hj
  rw [h.cell hj, listB_get hj, decide_eq_true (by omega), Bool.true_and]
theorem boolE_info : (Tryd.prog.info? 4).map (fun i => (i.zero, i.size, i.bytes)) = some (some (.bool false), 1, 1) := by kernel_rfl
theorem made_part {w1 : World} {base g0 n : Nat} {f : Nat → Bool} (hown : w1.ownsRow base 4 1 (.slice (some ⟨g0, 0, none⟩) n n) n (madeCells (Value.bool false).cells (n * 1)).toList) : BPart w1 g0 n 0 f := by
  obtain ⟨_, ⟨h, _⟩ | ⟨g, cap, cur, hv, _, hg, _, _, hcs, ht⟩⟩ := hown
  · cases h
  · injection hv with h1 _ h3
    injection h1 with h1
    injection h1 with h1 _ _
    subst h1 h3
    rw [Nat.mul_one] at hcs ht
    refine ⟨cur, hg, hcs, fun j hj => ?_⟩
    have h4 : (cur.toList.take n)[j]? = cur[j]? := by rw [List.getElem?_take, if_pos hj, Array.getElem?_toList]
    rw [← h4, ht, Array.getElem?_toList]
    unfold madeCells
    rw [Array.getElem?_map, Array.getElem?_range, if_pos hj]
    simp [Value.cells, Nat.mod_one]

set_option maxRecDepth 100000 in
set_option maxHeartbeats 4000000 in
theorem either_any (va vb : Value) (xs bs : List Bool) (w : World) (ha : BRow w va xs) (hb : BRow w vb bs) (hl : bs.length = xs.length) (h1 : 1 ≤ xs.length) (hn : xs.length ≤ 1000) :
    Calls Tryd.prog 54 #[va, vb] w fun x w' => ∃ v cs, x = .returned v ∧ BRow w' v cs ∧ cs.length = xs.length ∧ (∀ j, j < cs.length → cs.getD j false = (xs.getD j false || bs.getD j false)) ∧ Below w.heap.size w w' := by
  have HA := Lib.hid ha
  have HB := Lib.hid hb
  obtain ⟨ga, ca, rfl, hca, hcma, hga, ha⟩ := ha
  obtain ⟨gb, cb, rfl, hcb, hcmb, hgb, hb⟩ := hb
  have HCA := Lib.hid ha
  have HCB := Lib.hid hb
  clear ha hb
  rw [hl] at hcb
  generalize hna : xs.length = na at *
  unfold maxLen at hcma hcmb
  obtain ⟨i0, hi, hz0, hz1, hz2⟩ := info_parts boolE_info
  rw [hl]
  go_enter Tryd.func54, Tryd.ntmps54
  go_wp2_with (first
    | (at_make; refine wpList_make_full _ rfl _ _ 73 rfl w.heap.size 4 i0 (.bool false) 1 Tryd.underlying73 hi hz0 hz1 .i64 .i64 _ _ na rfl rfl rfl rfl (by rw [hz2]; omega) (by unfold maxLen; omega) (Nat.le_refl _) ?_; intro w1 hown hgrow)
    | fail)
  have HW1 := Lib.hid ((Below.refl w.heap.size w).grown hgrow (Nat.le_refl _) (fun j hj => by cases hj))
  have HPT : Hid (BPart w1 w.heap.size na 0 (fun j => xs.getD j false || bs.getD j false)) := Lib.hid (made_part hown)
  clear hown hgrow hi hz0 hz1 hz2
  go_loopg [6] na (fun g u wx => ∃ i : Nat, u = .int .i64 i ∧ i + g = na ∧ Hid (BPart wx w.heap.size na i (fun j => xs.getD j false || bs.getD j false)) ∧ Hid (Below w.heap.size w wx))
  case atStart => exact ⟨0, rfl, by omega, HPT, HW1⟩
  case round =>
    clear HPT HW1
    obtain ⟨i, rfl, hig, HP, HW⟩ := hrel
    by_cases hi : i < na
    · have fa := cell_kept (HCA.out i hi) HW.out
      have fb := cell_kept (HCB.out i (by rw [hl]; exact hi)) HW.out
      have hla := cell_lt fa
      have hlb := cell_lt fb
      have fo := HP.out.cell hi
      have zo := HP.out.free i
      have hlo := HP.out.lt
      have HN1 : Hid (∀ b, b = (xs.getD i false || bs.getD i false) → BPart (wr.setCell ⟨w.heap.size, i, none⟩ (.bool b)) w.heap.size na (i + 1) (fun j => xs.getD j false || bs.getD j false)) := Lib.hid fun b hb => HP.out.next hi hb
      have HW1 : Hid (∀ b, Below w.heap.size w (wr.setCell ⟨w.heap.size, i, none⟩ (.bool b))) := Lib.hid fun b => below_set HW.out i (.bool b) (Nat.le_refl _)
      obtain ⟨g, rfl⟩ : ∃ g, gk = g + 1 := ⟨gk - 1, by omega⟩
      generalize xs.getD i false = x at *
      generalize bs.getD i false = y at *
      cases x with
      | true =>
        go_wp2
        go_roundg g
        case measure => omega
        case rel => exact ⟨i + 1, by go_num, by omega, Lib.hid (HN1.out _ (by simp)), Lib.hid (HW1.out _)⟩
      | false =>
        go_wp2
        go_roundg g
        case measure => omega
        case rel => exact ⟨i + 1, by go_num, by omega, Lib.hid (HN1.out _ (by simp)), Lib.hid (HW1.out _)⟩
    · go_wp2
      go_ret
      exact ⟨_, listB na (fun j => xs.getD j false || bs.getD j false), rfl, HP.out.done (by omega) (Nat.le_refl _) (by unfold maxLen; omega), listB_len _ _, fun j hj => listB_get (by rwa [listB_len] at hj), HW.out⟩
end Go.Proofs.YtldmimekmjmkgaaDoor

namespace Go.Proofs.YtldmimekmjmkgaaDoor
open Go.RowKit Go.Sort Go.Maps Go.WideMaps

theorem wordAt {W : World} {S : Nat → Prop} {A : Option Addr} {n c : Nat} {l : List ByteArray} (h : Strs W S (.slice A n c) l) {i : Nat} {s : ByteArray} (hi : l[i]? = some s) : ∃ b o, A = some ⟨b, o, none⟩ ∧ W.cell? ⟨b, o + i, none⟩ = some (.string s) := by
  obtain ⟨A', c', hv, _, _, h⟩ := h
  injection hv with hA _ _
  subst hA
  rcases h with h | ⟨b, o, rfl, _, hx⟩
  · subst h; simp at hi
  · exact ⟨b, o, rfl, hx i s hi⟩
theorem BPart.none {w : World} {g n : Nat} {f : Nat → Bool} (h : BPart w g n 0 f) (hm : n ≤ maxLen) : BRow w (.slice (some ⟨g, 0, none⟩) n n) (listB n fun _ => false) := by
  refine BPart.done (k := n) (f := fun _ => false) ?_ (Nat.le_refl _) (Nat.le_refl _) hm
  obtain ⟨cur, h1, h2, h3⟩ := h
  exact ⟨cur, h1, h2, fun j hj => by rw [h3 j hj]; simp⟩
theorem listB_false (n j : Nat) : (listB n fun _ => false).getD j false = false := by
  by_cases h : j < n
  · exact listB_get h
  · unfold listB; rw [List.getD_eq_getElem?_getD, List.getElem?_eq_none (by simp; omega)]; rfl
/-- A name's ends. -/
def nameF (s : ByteArray) (word : List ByteArray) (st : List Bool) : Nat → Bool
  | 0 => false
  | j + 1 => st.getD j false && decide (word[j]? = some s)
theorem ends_nameF {s : ByteArray} {word : List ByteArray} {st : List Bool} : EndsBy (fun w => w = [s]) word st (listB (word.length + 1) (nameF s word st)) := by
  refine ends_name (listB_len _ _) (listB_get (by omega)) fun i x hx => ?_
  have hi : i < word.length := (List.getElem?_eq_some_iff.1 hx).1
  rw [listB_get (by omega), nameF, hx, Bool.and_eq_true, decide_eq_true_iff, Option.some.injEq]
theorem langE_name (s : ByteArray) (l : List Ex) : lang (.mk 110 s l) = fun w => w = [s] := by rw [lang, if_pos rfl]
theorem langE_seq (s : ByteArray) (l : List Ex) : lang (.mk 115 s l) = langSeq l := by rw [lang, if_neg (by decide), if_pos rfl]
theorem langE_alt (s : ByteArray) (l : List Ex) : lang (.mk 97 s l) = langAlt l := by rw [lang, if_neg (by decide), if_neg (by decide), if_pos rfl]
theorem langE_star (s : ByteArray) (x : Ex) : lang (.mk 42 s [x]) = lStar (lang x) := by rw [lang, if_neg (by decide), if_neg (by decide), if_neg (by decide), if_pos rfl, langOne]
theorem langE_plus (s : ByteArray) (x : Ex) : lang (.mk 43 s [x]) = lCat (lang x) (lStar (lang x)) := by rw [lang, if_neg (by decide), if_neg (by decide), if_neg (by decide), if_neg (by decide), if_pos rfl, langOne]
theorem langE_opt (s : ByteArray) (x : Ex) : lang (.mk 63 s [x]) = fun w => w = [] ∨ lang x w := by rw [lang, if_neg (by decide), if_neg (by decide), if_neg (by decide), if_neg (by decide), if_neg (by decide), langOne]
theorem seq_next {l : List Ex} {i : Nat} {x : Ex} (h : l[i]? = some x) {word : List ByteArray} {st b c : List Bool} (h1 : EndsBy (langSeq (l.take i)) word st b) (h2 : EndsBy (lang x) word b c) : EndsBy (langSeq (l.take (i + 1))) word st c := by
  rw [List.take_add_one, h]
  exact (ends_cat h1 h2).congr fun u _ => (langSeq_end x _ u).symm
theorem alt_next {l : List Ex} {i : Nat} {x : Ex} (h : l[i]? = some x) {word : List ByteArray} {st b c d : List Bool} (h1 : EndsBy (langAlt (l.take i)) word st b) (h2 : EndsBy (lang x) word st c) (hd : d.length = b.length) (hx : ∀ j, j < d.length → d.getD j false = (b.getD j false || c.getD j false)) : EndsBy (langAlt (l.take (i + 1))) word st d := by
  rw [List.take_add_one, h]
  exact (ends_or h1 h2 hd hx).congr fun u _ => (langAlt_end x _ u).symm
theorem rep_next {A : Rws} {lo k : Nat} (hk : lo ≤ k + 1) {word : List ByteArray} {st nb nb' ob d : List Bool} (h1 : EndsBy (powL A k) word st nb) (h2 : EndsBy A word nb nb') (h3 : EndsBy (upL A lo k) word st ob) (hd : d.length = ob.length) (hx : ∀ j, j < d.length → d.getD j false = (ob.getD j false || nb'.getD j false)) :
    EndsBy (powL A (k + 1)) word st nb' ∧ EndsBy (upL A lo (k + 1)) word st d :=
  ⟨ends_cat h1 h2, (ends_or h3 (ends_cat h1 h2) hd hx).congr fun u _ => upL_next hk u⟩
theorem rep_start {A : Rws} {word : List ByteArray} {st : List Bool} (h : st.length = word.length + 1) : EndsBy (powL A 0) word st st := ends_id h
theorem up_start {A : Rws} {word : List ByteArray} {st : List Bool} (h : st.length = word.length + 1) : EndsBy (upL A 0 0) word st st :=
  (ends_id h).congr fun u _ => ⟨fun h => ⟨0, Nat.le_refl _, Nat.le_refl _, h⟩, fun ⟨m, _, h2, h3⟩ => by obtain rfl : m = 0 := (by omega); exact h3⟩
theorem up_none {A : Rws} {word : List ByteArray} {st d : List Bool} (hd : d.length = word.length + 1) (h : ∀ j, d.getD j false = false) : EndsBy (upL A 1 0) word st d :=
  (ends_none hd h).congr fun u _ => ⟨fun h => h.elim, fun ⟨m, h1, h2, _⟩ => by omega⟩

def NdPost (w : World) (L : Rws) (word : List ByteArray) (st : List Bool) (x : Ending) (w' : World) : Prop := ∃ v bs, x = .returned v ∧ BRow w' v bs ∧ EndsBy L word st bs ∧ Below w.heap.size w w'
def NdSaid (e : Ex) : Prop := ∀ (A : Option Addr) (n c B : Nat) (vw : Value) (word : List ByteArray) (va : Value) (st : List Bool) (w : World), e.fits → allE okN e = true → word.length ≤ 40 → Exs w (Under B) (.slice A n c) e.kids → Strs w (Under B) vw word → B ≤ w.heap.size → BRow w va st → st.length = word.length + 1 →
  Calls Tryd.prog 39 #[.agg #[.int .u8 (e.op : Int), .string e.name, .slice A n c], vw, va] w (NdPost w (lang e) word st)
set_option maxRecDepth 100000 in
set_option maxHeartbeats 8000000 in
theorem rends_walk : ∀ e, NdSaid e := by
  intro e
  induction e using Ex.induct_one with
  | h o s l ih =>
    intro A n c B vw word va st w he ha hwl hl hw hB hst hsl
    have IH := Lib.hid ih
    clear ih
    simp only [Ex.op, Ex.name, Ex.kids] at *
    have hlen := hl.len
    obtain ⟨A', c', hv, hc, hm, _⟩ := id hl
    injection hv with hA hn hc'
    subst hA hn hc'
    obtain ⟨Aw, cw, rfl, hcw, hcmw, _⟩ := id hw
    obtain ⟨ga, ca, rfl, hca, hcma, hga, hat⟩ := id hst
    have HAT := Lib.hid hat
    rw [hsl] at hca
    rw [hsl]
    unfold maxLen at hm hcmw hcma
    have HF := Lib.hid he
    have HA := Lib.hid hl
    have HWD := Lib.hid hw
    have HST : Hid (BRow w (.slice (some ⟨ga, 0, none⟩) (word.length + 1) ca) st) := Lib.hid (by rw [hsl] at hst; exact hst)
    have HSL := Lib.hid hsl
    obtain ⟨i0, hi, hz0, hz1, hz2⟩ := info_parts boolE_info
    have hzb : (w.alloc (.cells #[.int .u8 (o : Int), .string s, .slice A l.length c] 30)).heap.size = w.heap.size + 1 := by simp
    have hop := write_op ha
    generalize hN : word.length = N at *
    have HN := Lib.hid hN
    clear hl hw hst hat he hsl hN
    rcases hop with rfl | hop
    · have HQ : Hid (lang (.mk 110 s l) = fun w => w = [s]) := Lib.hid (langE_name s l)
      clear ha
      go_enter Tryd.func39, Tryd.ntmps39
      go_wp2_with (first
        | (at_make; refine wpList_make_full _ rfl _ _ 73 rfl w.heap.size 4 i0 (.bool false) 1 Tryd.underlying73 hi hz0 hz1 .i64 .i64 _ _ (N + 1) rfl rfl (by first | rfl | simp) (by first | rfl | simp) (by rw [hz2]; omega) (by unfold maxLen; omega) (by simp) ?_; intro w1 hown hgrow
           have HB1 : Hid (Below w.heap.size w w1) := Lib.hid (((Below.refl w.heap.size w).alloc (Nat.le_refl _) _).grown hgrow (by simp) (fun j hj => by cases hj))
           have HBX : Hid (w1.heap[w.heap.size]? = some (.cells #[.int .u8 (110 : Nat), .string s, .slice A l.length c] 30)) := Lib.hid ((hgrow.block _ (by simp) (by intro h; cases h)).trans (heap_new _ _))
           have hmade : ∀ f, BPart w1 (w.heap.size + 1) (N + 1) 0 f := fun f => by have h := made_part (f := f) hown; simpa using h
           have HMADE := Lib.hid hmade
           obtain ⟨d0, d1, d2⟩ := three_cells HBX.out
           have hzd := cell_lt d0
           have hz1' : w.heap.size + 1 < w1.heap.size := (hmade (fun _ => false)).lt
           clear hown hgrow hmade)
        | fail)
      clear hi hz0 hz1 hz2 hzb
      clear d0 d1 d2 hzd
      go_loopg [8] N (fun g u wx => ∃ i : Nat, u = .int .i64 i ∧ i + g = N ∧ Hid (BPart wx (w.heap.size + 1) (N + 1) (i + 1) (nameF s word st)) ∧ Hid (Below w.heap.size w wx) ∧ Hid (wx.heap[w.heap.size]? = some (.cells #[.int .u8 (110 : Nat), .string s, .slice A l.length c] 30)))
      case atStart => exact ⟨0, rfl, by omega, Lib.hid ((HMADE.out _).one rfl), HB1, HBX⟩
      case round =>
        clear HMADE HB1 HBX
        obtain ⟨i, rfl, hig, HP, HW, HBX⟩ := hrel
        obtain ⟨d0, d1, d2⟩ := three_cells HBX.out
        have hzd := cell_lt d0
        by_cases hi : i < N
        · obtain ⟨x, hx⟩ : ∃ x, word[i]? = some x := ⟨_, List.getElem?_eq_getElem (by rw [HN.out]; exact hi)⟩
          have HWR : Hid (Strs wr (Under B) (.slice Aw N cw) word) := Lib.hid (HWD.out.keep (fun _ h => h) fun b hb => HW.out.block b (Nat.lt_of_lt_of_le hb hB))
          obtain ⟨bw, ow, rfl, cx⟩ := wordAt HWR.out hx
          have fa := cell_kept (HAT.out i (by rw [HSL.out]; omega)) HW.out
          have hla := cell_lt fa
          have hlx := cell_lt cx
          have hlo := HP.out.lt
          have fo := HP.out.cell (j := i + 1) (by omega)
          have zo := HP.out.free (i + 1)
          have HNF : Hid (nameF s word st (i + 1) = (st.getD i false && decide (x = s))) := Lib.hid (by rw [nameF, hx]; simp)
          have HN1 : Hid (∀ b, b = nameF s word st (i + 1) → BPart (wr.drew.setCell ⟨w.heap.size + 1, i + 1, none⟩ (.bool b)) (w.heap.size + 1) (N + 1) (i + 1 + 1) (nameF s word st)) := Lib.hid fun b hb => (HP.out.keep (w' := wr.drew) rfl).next (by omega) hb
          have HW1 : Hid (∀ b, Below w.heap.size w (wr.drew.setCell ⟨w.heap.size + 1, i + 1, none⟩ (.bool b))) := Lib.hid fun b => below_set (HW.out.trans ((below_drewX wr).mono HW.out.size)) (i + 1) (.bool b) (by omega)
          have HBX1 : Hid (∀ b, (wr.drew.setCell ⟨w.heap.size + 1, i + 1, none⟩ (.bool b)).heap[w.heap.size]? = some (.cells #[.int .u8 (110 : Nat), .string s, .slice A l.length c] 30)) := Lib.hid fun b => (Below.heap_setCell _ _ _ _ (by dsimp only; omega)).trans HBX.out
          obtain ⟨g, rfl⟩ : ∃ g, gk = g + 1 := ⟨gk - 1, by omega⟩
          clear hx
          generalize st.getD i false = p at *
          cases p with
          | false =>
            go_wp2_with fail
            go_region
            all_goals
              go_wp2
              go_roundg g
              case measure => omega
              case rel => exact ⟨i + 1, by go_num, by omega, Lib.hid (HN1.out _ (by rw [HNF.out]; simp)), Lib.hid (HW1.out _), Lib.hid (HBX1.out _)⟩
          | true =>
            by_cases hxs : x = s
            · have hse : (x.toList == s.toList) = true := by rw [hxs]; simp
              have HXS := Lib.hid hxs
              clear hxs
              go_wp2_with fail
              go_region
              all_goals
                go_wp2
                go_roundg g
                case measure => omega
                case rel => exact ⟨i + 1, by go_num, by omega, Lib.hid (HN1.out _ (by rw [HNF.out]; simp [HXS.out])), Lib.hid (HW1.out _), Lib.hid (HBX1.out _)⟩
            · have hse : (x.toList == s.toList) = false := by
                rw [beq_eq_false_iff_ne]; intro h; rw [Lib.toList_data, Lib.toList_data] at h; exact hxs (bytesE_of h)
              have HXS := Lib.hid hxs
              clear hxs
              go_wp2_with fail
              go_region
              all_goals
                go_wp2
                go_roundg g
                case measure => omega
                case rel => exact ⟨i + 1, by go_num, by omega, Lib.hid (HN1.out _ (by rw [HNF.out]; simp [HXS.out])), Lib.hid (HW1.out _), Lib.hid (HBX1.out _)⟩
        · have hcm : N + 1 ≤ maxLen := by unfold maxLen; omega
          have HEN : Hid (EndsBy (fun w => w = [s]) word st (listB (N + 1) (nameF s word st))) := Lib.hid (by have h := ends_nameF (s := s) (word := word) (st := st); rw [HN.out] at h; exact h)
          go_wp2
          go_ret
          exact ⟨_, _, rfl, HP.out.done (by omega) (Nat.le_refl _) hcm, by rw [HQ.out]; exact HEN.out, HW.out⟩
    rcases hop with rfl | hop
    · obtain rfl := all_empty ha (by decide)
      obtain ⟨_, _, hks⟩ := all_alt ha
      have HKS := Lib.hid hks
      have HQ : Hid (lang (.mk 97 ByteArray.empty l) = langAlt l) := Lib.hid (langE_alt _ l)
      clear ha hks
      go_enter Tryd.func39, Tryd.ntmps39
      go_wp2_with (first
        | (at_make; refine wpList_make_full _ rfl _ _ 73 rfl w.heap.size 4 i0 (.bool false) 1 Tryd.underlying73 hi hz0 hz1 .i64 .i64 _ _ (N + 1) rfl rfl (by first | rfl | simp) (by first | rfl | simp) (by rw [hz2]; omega) (by unfold maxLen; omega) (by simp) ?_; intro w1 hown hgrow
           have HB1 : Hid (Below w.heap.size w w1) := Lib.hid (((Below.refl w.heap.size w).alloc (Nat.le_refl _) _).grown hgrow (by simp) (fun j hj => by cases hj))
           have HBX : Hid (w1.heap[w.heap.size]? = some (.cells #[.int .u8 (97 : Nat), .string ByteArray.empty, .slice A l.length c] 30)) := Lib.hid ((hgrow.block _ (by simp) (by intro h; cases h)).trans (heap_new _ _))
           have hmade : ∀ f, BPart w1 (w.heap.size + 1) (N + 1) 0 f := fun f => by have h := made_part (f := f) hown; simpa using h
           have HMADE := Lib.hid hmade
           obtain ⟨d0, d1, d2⟩ := three_cells HBX.out
           have hzd := cell_lt d0
           have hz1' : w.heap.size + 1 < w1.heap.size := (hmade (fun _ => false)).lt
           clear hown hgrow hmade)
        | fail)
      clear hi hz0 hz1 hz2 hzb
      clear d0 d1 d2 hzd
      have HST1 := Lib.hid (HST.out.keep HB1.out)
      have HNB : Hid (BRow w1 (.slice (some ⟨w.heap.size + 1, 0, none⟩) (N + 1) (N + 1)) (listB (N + 1) fun _ => false)) := Lib.hid ((HMADE.out fun _ => false).none (by unfold maxLen; omega))
      go_loopg [7, 10] l.length (fun g v u wx => ∃ (i : Nat) (bs : List Bool), u = .int .i64 i ∧ i + g = l.length ∧ Hid (Below w1.heap.size w1 wx) ∧ Hid (BRow wx v bs) ∧ Hid (EndsBy (langAlt (l.take i)) word st bs))
      case atStart => exact ⟨0, _, rfl, by omega, Lib.hid (Below.refl _ _), HNB, Lib.hid (by rw [List.take_zero]; exact ends_none (by rw [listB_len, HN.out]) (listB_false _))⟩
      case round =>
        clear HNB HMADE
        obtain ⟨i, bs, rfl, hig, HR, HV, HE⟩ := hrel
        have HBXR : Hid (wr.heap[w.heap.size]? = some (.cells #[.int .u8 (97 : Nat), .string ByteArray.empty, .slice A l.length c] 30)) := Lib.hid ((HR.out.block _ (by omega)).trans HBX.out)
        obtain ⟨d0, d1, d2⟩ := three_cells HBXR.out
        have hzd := cell_lt d0
        by_cases hi : i < l.length
        · have hlx : l[i]? = some l[i] := List.getElem?_eq_getElem hi
          generalize hx : l[i] = x at *
          have HAR : Hid (Exs wr (Under B) (.slice A l.length c) l) := Lib.hid (HA.out.keep (fun _ h => h) fun b hb => (HR.out.block b (by have : b < B := hb; have := HB1.out.size; omega)).trans (HB1.out.block b (Nat.lt_of_lt_of_le hb hB)))
          obtain ⟨b, off, rfl, hb, hat⟩ := HAR.out.get hlx
          obtain ⟨v3, f0, f1, f2, exk⟩ := (exAt_iff x b _).1 hat
          obtain ⟨A3, c3, rfl, _⟩ := id exk
          have hl3 := cell_lt f0
          have HX := Lib.hid hlx
          have HMEM := Lib.hid (List.mem_of_getElem? hlx)
          have HWR : Hid (Strs wr (Under B) (.slice Aw N cw) word) := Lib.hid (HWD.out.keep (fun _ h => h) fun b hb => (HR.out.block b (by have : b < B := hb; have := HB1.out.size; omega)).trans (HB1.out.block b (Nat.lt_of_lt_of_le hb hB)))
          have HEK := Lib.hid exk
          obtain ⟨g, rfl⟩ : ∃ g, gk = g + 1 := ⟨gk - 1, by omega⟩
          clear exk hx hlx hat hb
          go_wp2_with fail
          refine (IH.out x HMEM.out A3 _ c3 B _ word _ st _ (HF.out.kid (e := .mk 97 ByteArray.empty l) HMEM.out) (HKS.out x HMEM.out) (by rw [HN.out]; omega) HEK.out HWR.out (by have := HR.out.size; have := HB1.out.size; omega) (HST1.out.keep HR.out) (by rw [HSL.out, HN.out])).mono ?_
          rintro e w3 ⟨v3, bs3, rfl, hv3, he3, hb3⟩
          have HR3 : Hid (Below w1.heap.size w1 w3) := Lib.hid (belowNext HR.out hb3)
          have HV3 := Lib.hid hv3
          have HE3 := Lib.hid he3
          have HVB := Lib.hid (HV.out.keep hb3)
          clear hb3 hv3 he3 f0 f1 f2 HEK d0 d1 d2
          go_wp2_with fail
          refine (either_any _ _ bs bs3 w3 HVB.out HV3.out (by rw [HE.out.1, HE3.out.1]) (by rw [HE.out.1]; omega) (by rw [HE.out.1, HN.out]; omega)).mono ?_
          rintro e w4 ⟨v4, cs, rfl, hv4, hl4, hx4, hb4⟩
          have HR4 : Hid (Below w1.heap.size w1 w4) := Lib.hid (belowNext HR3.out hb4)
          have HV4 := Lib.hid hv4
          have HE4 := Lib.hid (alt_next HX.out HE.out HE3.out hl4 hx4)
          clear hb4 hv4 hl4 hx4
          go_wp2
          go_roundg g
          case measure => omega
          case rel => exact ⟨i + 1, cs, by go_num, by omega, HR4, HV4, HE4⟩
        · have HT : Hid (l.take i = l) := Lib.hid (List.take_of_length_le (by omega))
          go_wp2
          go_ret
          exact ⟨_, bs, rfl, HV.out, by have h := HE.out; rw [HT.out] at h; rw [HQ.out]; exact h, HB1.out.trans (HR.out.mono (by omega))⟩
    rcases hop with rfl | hop
    · obtain rfl := all_empty ha (by decide)
      obtain ⟨_, _, hks⟩ := all_seq ha
      have HKS := Lib.hid hks
      have HQ : Hid (lang (.mk 115 ByteArray.empty l) = langSeq l) := Lib.hid (langE_seq _ l)
      clear ha hks
      go_enter Tryd.func39, Tryd.ntmps39
      go_wp2_with (first
        | (at_make; refine wpList_make_full _ rfl _ _ 73 rfl w.heap.size 4 i0 (.bool false) 1 Tryd.underlying73 hi hz0 hz1 .i64 .i64 _ _ (N + 1) rfl rfl (by first | rfl | simp) (by first | rfl | simp) (by rw [hz2]; omega) (by unfold maxLen; omega) (by simp) ?_; intro w1 hown hgrow
           have HB1 : Hid (Below w.heap.size w w1) := Lib.hid (((Below.refl w.heap.size w).alloc (Nat.le_refl _) _).grown hgrow (by simp) (fun j hj => by cases hj))
           have HBX : Hid (w1.heap[w.heap.size]? = some (.cells #[.int .u8 (115 : Nat), .string ByteArray.empty, .slice A l.length c] 30)) := Lib.hid ((hgrow.block _ (by simp) (by intro h; cases h)).trans (heap_new _ _))
           have hmade : ∀ f, BPart w1 (w.heap.size + 1) (N + 1) 0 f := fun f => by have h := made_part (f := f) hown; simpa using h
           have HMADE := Lib.hid hmade
           obtain ⟨d0, d1, d2⟩ := three_cells HBX.out
           have hzd := cell_lt d0
           have hz1' : w.heap.size + 1 < w1.heap.size := (hmade (fun _ => false)).lt
           clear hown hgrow hmade)
        | fail)
      clear hi hz0 hz1 hz2 hzb
      clear d0 d1 d2 hzd
      have HST1 := Lib.hid (HST.out.keep HB1.out)
      go_loopg [7, 9] l.length (fun g v u wx => ∃ (i : Nat) (bs : List Bool), u = .int .i64 i ∧ i + g = l.length ∧ Hid (Below w1.heap.size w1 wx) ∧ Hid (BRow wx v bs) ∧ Hid (EndsBy (langSeq (l.take i)) word st bs))
      case atStart => exact ⟨0, st, rfl, by omega, Lib.hid (Below.refl _ _), HST1, Lib.hid (by rw [List.take_zero]; exact ends_id (by rw [HSL.out, HN.out]))⟩
      case round =>
        clear HST1
        obtain ⟨i, bs, rfl, hig, HR, HV, HE⟩ := hrel
        have HBXR : Hid (wr.heap[w.heap.size]? = some (.cells #[.int .u8 (115 : Nat), .string ByteArray.empty, .slice A l.length c] 30)) := Lib.hid ((HR.out.block _ (by omega)).trans HBX.out)
        obtain ⟨d0, d1, d2⟩ := three_cells HBXR.out
        have hzd := cell_lt d0
        by_cases hi : i < l.length
        · have hlx : l[i]? = some l[i] := List.getElem?_eq_getElem hi
          generalize hx : l[i] = x at *
          have HAR : Hid (Exs wr (Under B) (.slice A l.length c) l) := Lib.hid (HA.out.keep (fun _ h => h) fun b hb => (HR.out.block b (by have : b < B := hb; have := HB1.out.size; omega)).trans (HB1.out.block b (Nat.lt_of_lt_of_le hb hB)))
          obtain ⟨b, off, rfl, hb, hat⟩ := HAR.out.get hlx
          obtain ⟨v3, f0, f1, f2, exk⟩ := (exAt_iff x b _).1 hat
          obtain ⟨A3, c3, rfl, _⟩ := id exk
          have hl3 := cell_lt f0
          have HX := Lib.hid hlx
          have HMEM := Lib.hid (List.mem_of_getElem? hlx)
          have HWR : Hid (Strs wr (Under B) (.slice Aw N cw) word) := Lib.hid (HWD.out.keep (fun _ h => h) fun b hb => (HR.out.block b (by have : b < B := hb; have := HB1.out.size; omega)).trans (HB1.out.block b (Nat.lt_of_lt_of_le hb hB)))
          have HEK := Lib.hid exk
          obtain ⟨g, rfl⟩ : ∃ g, gk = g + 1 := ⟨gk - 1, by omega⟩
          clear exk hx hlx hat hb
          go_wp2_with fail
          refine (IH.out x HMEM.out A3 _ c3 B _ word _ bs _ (HF.out.kid (e := .mk 115 ByteArray.empty l) HMEM.out) (HKS.out x HMEM.out) (by rw [HN.out]; omega) HEK.out HWR.out (by have := HR.out.size; have := HB1.out.size; omega) HV.out HE.out.1).mono ?_
          rintro e w3 ⟨v3, bs3, rfl, hv3, he3, hb3⟩
          have HR3 : Hid (Below w1.heap.size w1 w3) := Lib.hid (belowNext HR.out hb3)
          have HV3 := Lib.hid hv3
          have HE3 := Lib.hid (seq_next HX.out HE.out he3)
          clear hb3 hv3 he3 f0 f1 f2 HEK d0 d1 d2
          go_wp2
          go_roundg g
          case measure => omega
          case rel => exact ⟨i + 1, bs3, by go_num, by omega, HR3, HV3, HE3⟩
        · have HT : Hid (l.take i = l) := Lib.hid (List.take_of_length_le (by omega))
          go_wp2
          go_ret
          exact ⟨_, bs, rfl, HV.out, by have h := HE.out; rw [HT.out] at h; rw [HQ.out]; exact h, HB1.out.trans (HR.out.mono (by omega))⟩
    obtain ⟨_, _, _, h3, h4, h5⟩ := repE_small hop
    obtain rfl := all_empty ha h3
    obtain ⟨x, rfl, _, hks⟩ := all_rep ha h3 h5 h4
    have HKS := Lib.hid hks
    have ho : o = 42 ∨ o = 43 ∨ o = 63 := by simp only [repE, Bool.or_eq_true, beq_iff_eq] at hop; omega
    simp only [List.length_cons, List.length_nil, Nat.zero_add] at *
    clear ha hks hop h3 h4 h5
    rcases ho with rfl | rfl | rfl
    · have HQ : Hid (lang (.mk 42 ByteArray.empty [x]) = lStar (lang x)) := Lib.hid (langE_star _ x)
      go_enter Tryd.func39, Tryd.ntmps39
      go_wp2_with (first
        | (at_make; refine wpList_make_full _ rfl _ _ 73 rfl w.heap.size 4 i0 (.bool false) 1 Tryd.underlying73 hi hz0 hz1 .i64 .i64 _ _ (N + 1) rfl rfl (by first | rfl | simp) (by first | rfl | simp) (by rw [hz2]; omega) (by unfold maxLen; omega) (by simp) ?_; intro w1 hown hgrow
           have HB1 : Hid (Below w.heap.size w w1) := Lib.hid (((Below.refl w.heap.size w).alloc (Nat.le_refl _) _).grown hgrow (by simp) (fun j hj => by cases hj))
           have HBX : Hid (w1.heap[w.heap.size]? = some (.cells #[.int .u8 (42 : Nat), .string ByteArray.empty, .slice A 1 c] 30)) := Lib.hid ((hgrow.block _ (by simp) (by intro h; cases h)).trans (heap_new _ _))
           have hmade : ∀ f, BPart w1 (w.heap.size + 1) (N + 1) 0 f := fun f => by have h := made_part (f := f) hown; simpa using h
           have HMADE := Lib.hid hmade
           obtain ⟨d0, d1, d2⟩ := three_cells HBX.out
           have hzd := cell_lt d0
           have hz1' : w.heap.size + 1 < w1.heap.size := (hmade (fun _ => false)).lt
           clear hown hgrow hmade)
        | fail)
      clear hi hz0 hz1 hz2 hzb
      clear d0 d1 d2 hzd
      have HST1 := Lib.hid (HST.out.keep HB1.out)
      go_loopg [7, 11, 12] (N + 1) (fun g v q u wx => ∃ (i : Nat) (bs nb : List Bool), u = .int .i64 i ∧ i + g = N + 1 ∧ Hid (Below w1.heap.size w1 wx) ∧ Hid (BRow wx v bs) ∧ Hid (BRow wx q nb) ∧ Hid (EndsBy (upL (lang x) 0 i) word st bs) ∧ Hid (EndsBy (powL (lang x) i) word st nb))
      case atStart => exact ⟨0, _, st, rfl, by omega, Lib.hid (Below.refl _ _), HST1, HST1, Lib.hid (up_start (by rw [HSL.out, HN.out])), Lib.hid (rep_start (by rw [HSL.out, HN.out]))⟩
      case round =>
        clear HST1 
        obtain ⟨i, bs, nb, rfl, hig, HR, HV, HU, HE, HP⟩ := hrel
        by_cases hi : i < N + 1
        · obtain ⟨g, rfl⟩ : ∃ g, gk = g + 1 := ⟨gk - 1, by omega⟩
          have hiN : i ≤ N := by omega
          have HAR : Hid (Exs wr (Under B) (.slice A 1 c) [x]) := Lib.hid (HA.out.keep (fun _ h => h) fun b hb => (HR.out.block b (by have : b < B := hb; have := HB1.out.size; omega)).trans (HB1.out.block b (Nat.lt_of_lt_of_le hb hB)))
          obtain ⟨b, off, rfl, hb, hat⟩ := HAR.out.get (k := 0) (x := x) rfl
          obtain ⟨v3, f0, f1, f2, exk⟩ := (exAt_iff x b _).1 hat
          obtain ⟨A3, c3, rfl, _⟩ := id exk
          have hl3 := cell_lt f0
          simp only [Nat.zero_mul, Nat.add_zero] at f0 f1 f2
          have HWR : Hid (Strs wr (Under B) (.slice Aw N cw) word) := Lib.hid (HWD.out.keep (fun _ h => h) fun b hb => (HR.out.block b (by have : b < B := hb; have := HB1.out.size; omega)).trans (HB1.out.block b (Nat.lt_of_lt_of_le hb hB)))
          have HEK := Lib.hid exk
          have HBXR : Hid (wr.heap[w.heap.size]? = some (.cells #[.int .u8 (42 : Nat), .string ByteArray.empty, .slice (some ⟨b, off, none⟩) 1 c] 30)) := Lib.hid ((HR.out.block _ (by omega)).trans HBX.out)
          obtain ⟨d0, d1, d2⟩ := three_cells HBXR.out
          have hzd := cell_lt d0
          clear exk hat hb
          go_wp2_with fail
          refine (IH.out x (List.mem_cons_self ..) A3 _ c3 B _ word _ nb _ (HF.out.kid (e := .mk 42 ByteArray.empty [x]) (List.mem_cons_self ..)) HKS.out (by rw [HN.out]; omega) HEK.out HWR.out (by have := HR.out.size; have := HB1.out.size; omega) HU.out HP.out.1).mono ?_
          rintro e w3 ⟨v3, nb3, rfl, hv3, he3, hb3⟩
          have HR3 : Hid (Below w1.heap.size w1 w3) := Lib.hid (belowNext HR.out hb3)
          have HU3 := Lib.hid hv3
          have HE3 := Lib.hid he3
          have HV3 := Lib.hid (HV.out.keep hb3)
          clear hb3 hv3 he3 f0 f1 f2 HEK d0 d1 d2 HBXR
          go_wp2_with fail
          refine (either_any _ _ bs nb3 w3 HV3.out HU3.out (by rw [HE.out.1, HE3.out.1]) (by rw [HE.out.1]; omega) (by rw [HE.out.1, HN.out]; omega)).mono ?_
          rintro e w4 ⟨v4, cs, rfl, hv4, hl4, hx4, hb4⟩
          have HR4 : Hid (Below w1.heap.size w1 w4) := Lib.hid (belowNext HR3.out hb4)
          have HV4 := Lib.hid hv4
          have HU4 := Lib.hid (HU3.out.keep hb4)
          have HE4 := Lib.hid (rep_next (k := i) (lo := 0) (by omega) HP.out HE3.out HE.out hl4 hx4)
          have HBX4 : Hid (w4.heap[w.heap.size]? = some (.cells #[.int .u8 (42 : Nat), .string ByteArray.empty, .slice (some ⟨b, off, none⟩) 1 c] 30)) := Lib.hid ((HR4.out.block _ (by omega)).trans HBX.out)
          obtain ⟨d0, d1, d2⟩ := three_cells HBX4.out
          have hzd := cell_lt d0
          clear hb4 hv4 hl4 hx4
          go_wp2
          go_roundg g
          case measure => omega
          case rel => exact ⟨i + 1, cs, nb3, by go_num, by omega, HR4, HV4, HU4, Lib.hid HE4.out.2, Lib.hid HE4.out.1⟩
        · obtain rfl : i = N + 1 := by omega
          go_wp2
          go_ret
          exact ⟨_, bs, rfl, HV.out, by rw [HQ.out]; exact HE.out.congr fun u hu => up_star (by rw [HN.out] at hu; omega), HB1.out.trans (HR.out.mono (by omega))⟩
    · have HQ : Hid (lang (.mk 43 ByteArray.empty [x]) = lCat (lang x) (lStar (lang x))) := Lib.hid (langE_plus _ x)
      go_enter Tryd.func39, Tryd.ntmps39
      go_wp2_with (first
        | (at_make; refine wpList_make_full _ rfl _ _ 73 rfl w.heap.size 4 i0 (.bool false) 1 Tryd.underlying73 hi hz0 hz1 .i64 .i64 _ _ (N + 1) rfl rfl (by first | rfl | simp) (by first | rfl | simp) (by rw [hz2]; omega) (by unfold maxLen; omega) (by simp) ?_; intro w1 hown hgrow
           have HB1 : Hid (Below w.heap.size w w1) := Lib.hid (((Below.refl w.heap.size w).alloc (Nat.le_refl _) _).grown hgrow (by simp) (fun j hj => by cases hj))
           have HBX : Hid (w1.heap[w.heap.size]? = some (.cells #[.int .u8 (43 : Nat), .string ByteArray.empty, .slice A 1 c] 30)) := Lib.hid ((hgrow.block _ (by simp) (by intro h; cases h)).trans (heap_new _ _))
           have hmade : ∀ f, BPart w1 (w.heap.size + 1) (N + 1) 0 f := fun f => by have h := made_part (f := f) hown; simpa using h
           have HMADE := Lib.hid hmade
           obtain ⟨d0, d1, d2⟩ := three_cells HBX.out
           have hzd := cell_lt d0
           have hz1' : w.heap.size + 1 < w1.heap.size := (hmade (fun _ => false)).lt
           clear hown hgrow hmade)
        | fail)
      clear hi hz0 hz1 hz2 hzb
      clear d0 d1 d2 hzd
      have HST1 := Lib.hid (HST.out.keep HB1.out)
      have HNB : Hid (BRow w1 (.slice (some ⟨w.heap.size + 1, 0, none⟩) (N + 1) (N + 1)) (listB (N + 1) fun _ => false)) := Lib.hid ((HMADE.out fun _ => false).none (by unfold maxLen; omega))
      go_loopg [7, 11, 12] (N + 1) (fun g v q u wx => ∃ (i : Nat) (bs nb : List Bool), u = .int .i64 i ∧ i + g = N + 1 ∧ Hid (Below w1.heap.size w1 wx) ∧ Hid (BRow wx v bs) ∧ Hid (BRow wx q nb) ∧ Hid (EndsBy (upL (lang x) 1 i) word st bs) ∧ Hid (EndsBy (powL (lang x) i) word st nb))
      case atStart => exact ⟨0, _, st, rfl, by omega, Lib.hid (Below.refl _ _), HNB, HST1, Lib.hid (up_none (by rw [listB_len, HN.out]) (listB_false _)), Lib.hid (rep_start (by rw [HSL.out, HN.out]))⟩
      case round =>
        clear HST1 HNB
        obtain ⟨i, bs, nb, rfl, hig, HR, HV, HU, HE, HP⟩ := hrel
        by_cases hi : i < N + 1
        · obtain ⟨g, rfl⟩ : ∃ g, gk = g + 1 := ⟨gk - 1, by omega⟩
          have hiN : i ≤ N := by omega
          have HAR : Hid (Exs wr (Under B) (.slice A 1 c) [x]) := Lib.hid (HA.out.keep (fun _ h => h) fun b hb => (HR.out.block b (by have : b < B := hb; have := HB1.out.size; omega)).trans (HB1.out.block b (Nat.lt_of_lt_of_le hb hB)))
          obtain ⟨b, off, rfl, hb, hat⟩ := HAR.out.get (k := 0) (x := x) rfl
          obtain ⟨v3, f0, f1, f2, exk⟩ := (exAt_iff x b _).1 hat
          obtain ⟨A3, c3, rfl, _⟩ := id exk
          have hl3 := cell_lt f0
          simp only [Nat.zero_mul, Nat.add_zero] at f0 f1 f2
          have HWR : Hid (Strs wr (Under B) (.slice Aw N cw) word) := Lib.hid (HWD.out.keep (fun _ h => h) fun b hb => (HR.out.block b (by have : b < B := hb; have := HB1.out.size; omega)).trans (HB1.out.block b (Nat.lt_of_lt_of_le hb hB)))
          have HEK := Lib.hid exk
          have HBXR : Hid (wr.heap[w.heap.size]? = some (.cells #[.int .u8 (43 : Nat), .string ByteArray.empty, .slice (some ⟨b, off, none⟩) 1 c] 30)) := Lib.hid ((HR.out.block _ (by omega)).trans HBX.out)
          obtain ⟨d0, d1, d2⟩ := three_cells HBXR.out
          have hzd := cell_lt d0
          clear exk hat hb
          go_wp2_with fail
          refine (IH.out x (List.mem_cons_self ..) A3 _ c3 B _ word _ nb _ (HF.out.kid (e := .mk 43 ByteArray.empty [x]) (List.mem_cons_self ..)) HKS.out (by rw [HN.out]; omega) HEK.out HWR.out (by have := HR.out.size; have := HB1.out.size; omega) HU.out HP.out.1).mono ?_
          rintro e w3 ⟨v3, nb3, rfl, hv3, he3, hb3⟩
          have HR3 : Hid (Below w1.heap.size w1 w3) := Lib.hid (belowNext HR.out hb3)
          have HU3 := Lib.hid hv3
          have HE3 := Lib.hid he3
          have HV3 := Lib.hid (HV.out.keep hb3)
          clear hb3 hv3 he3 f0 f1 f2 HEK d0 d1 d2 HBXR
          go_wp2_with fail
          refine (either_any _ _ bs nb3 w3 HV3.out HU3.out (by rw [HE.out.1, HE3.out.1]) (by rw [HE.out.1]; omega) (by rw [HE.out.1, HN.out]; omega)).mono ?_
          rintro e w4 ⟨v4, cs, rfl, hv4, hl4, hx4, hb4⟩
          have HR4 : Hid (Below w1.heap.size w1 w4) := Lib.hid (belowNext HR3.out hb4)
          have HV4 := Lib.hid hv4
          have HU4 := Lib.hid (HU3.out.keep hb4)
          have HE4 := Lib.hid (rep_next (k := i) (lo := 1) (by omega) HP.out HE3.out HE.out hl4 hx4)
          have HBX4 : Hid (w4.heap[w.heap.size]? = some (.cells #[.int .u8 (43 : Nat), .string ByteArray.empty, .slice (some ⟨b, off, none⟩) 1 c] 30)) := Lib.hid ((HR4.out.block _ (by omega)).trans HBX.out)
          obtain ⟨d0, d1, d2⟩ := three_cells HBX4.out
          have hzd := cell_lt d0
          clear hb4 hv4 hl4 hx4
          go_wp2
          go_roundg g
          case measure => omega
          case rel => exact ⟨i + 1, cs, nb3, by go_num, by omega, HR4, HV4, HU4, Lib.hid HE4.out.2, Lib.hid HE4.out.1⟩
        · obtain rfl : i = N + 1 := by omega
          go_wp2
          go_ret
          exact ⟨_, bs, rfl, HV.out, by rw [HQ.out]; exact HE.out.congr fun u hu => up_plus (by rw [HN.out] at hu; omega), HB1.out.trans (HR.out.mono (by omega))⟩
    · have HQ : Hid (lang (.mk 63 ByteArray.empty [x]) = fun w => w = [] ∨ lang x w) := Lib.hid (langE_opt _ x)
      go_enter Tryd.func39, Tryd.ntmps39
      go_wp2_with (first
        | (at_make; refine wpList_make_full _ rfl _ _ 73 rfl w.heap.size 4 i0 (.bool false) 1 Tryd.underlying73 hi hz0 hz1 .i64 .i64 _ _ (N + 1) rfl rfl (by first | rfl | simp) (by first | rfl | simp) (by rw [hz2]; omega) (by unfold maxLen; omega) (by simp) ?_; intro w1 hown hgrow
           have HB1 : Hid (Below w.heap.size w w1) := Lib.hid (((Below.refl w.heap.size w).alloc (Nat.le_refl _) _).grown hgrow (by simp) (fun j hj => by cases hj))
           have HBX : Hid (w1.heap[w.heap.size]? = some (.cells #[.int .u8 (63 : Nat), .string ByteArray.empty, .slice A 1 c] 30)) := Lib.hid ((hgrow.block _ (by simp) (by intro h; cases h)).trans (heap_new _ _))
           have hmade : ∀ f, BPart w1 (w.heap.size + 1) (N + 1) 0 f := fun f => by have h := made_part (f := f) hown; simpa using h
           have HMADE := Lib.hid hmade
           obtain ⟨d0, d1, d2⟩ := three_cells HBX.out
           have hzd := cell_lt d0
           have hz1' : w.heap.size + 1 < w1.heap.size := (hmade (fun _ => false)).lt
           clear hown hgrow hmade)
        | fail)
      clear hi hz0 hz1 hz2 hzb
      clear d0 d1 d2 hzd
      have HST1 := Lib.hid (HST.out.keep HB1.out)
      go_loopg [7, 11, 12] (N + 1) (fun g v q u wx => ∃ (bs nb : List Bool), u = .int .i64 0 ∧ g = N + 1 ∧ Hid (Below w1.heap.size w1 wx) ∧ Hid (BRow wx v bs) ∧ Hid (BRow wx q nb) ∧ Hid (EndsBy (upL (lang x) 0 0) word st bs) ∧ Hid (EndsBy (powL (lang x) 0) word st nb))
      case atStart => exact ⟨st, st, rfl, rfl, Lib.hid (Below.refl _ _), HST1, HST1, Lib.hid (up_start (by rw [HSL.out, HN.out])), Lib.hid (rep_start (by rw [HSL.out, HN.out]))⟩
      case round =>
        clear HST1
        obtain ⟨bs, nb, rfl, hig, HR, HV, HU, HE, HP⟩ := hrel
        have i : Nat := 0
        clear i
        have HAR : Hid (Exs wr (Under B) (.slice A 1 c) [x]) := Lib.hid (HA.out.keep (fun _ h => h) fun b hb => (HR.out.block b (by have : b < B := hb; have := HB1.out.size; omega)).trans (HB1.out.block b (Nat.lt_of_lt_of_le hb hB)))
        obtain ⟨b, off, rfl, hb, hat⟩ := HAR.out.get (k := 0) (x := x) rfl
        obtain ⟨v3, f0, f1, f2, exk⟩ := (exAt_iff x b _).1 hat
        obtain ⟨A3, c3, rfl, _⟩ := id exk
        have hl3 := cell_lt f0
        simp only [Nat.zero_mul, Nat.add_zero] at f0 f1 f2
        have HWR : Hid (Strs wr (Under B) (.slice Aw N cw) word) := Lib.hid (HWD.out.keep (fun _ h => h) fun b hb => (HR.out.block b (by have : b < B := hb; have := HB1.out.size; omega)).trans (HB1.out.block b (Nat.lt_of_lt_of_le hb hB)))
        have HEK := Lib.hid exk
        have HBXR : Hid (wr.heap[w.heap.size]? = some (.cells #[.int .u8 (63 : Nat), .string ByteArray.empty, .slice (some ⟨b, off, none⟩) 1 c] 30)) := Lib.hid ((HR.out.block _ (by omega)).trans HBX.out)
        obtain ⟨d0, d1, d2⟩ := three_cells HBXR.out
        have hzd := cell_lt d0
        clear exk hat hb
        go_wp2_with fail
        refine (IH.out x (List.mem_cons_self ..) A3 _ c3 B _ word _ nb _ (HF.out.kid (e := .mk 63 ByteArray.empty [x]) (List.mem_cons_self ..)) HKS.out (by rw [HN.out]; omega) HEK.out HWR.out (by have := HR.out.size; have := HB1.out.size; omega) HU.out HP.out.1).mono ?_
        rintro e w3 ⟨v3, nb3, rfl, hv3, he3, hb3⟩
        have HR3 : Hid (Below w1.heap.size w1 w3) := Lib.hid (belowNext HR.out hb3)
        have HU3 := Lib.hid hv3
        have HE3 := Lib.hid he3
        have HV3 := Lib.hid (HV.out.keep hb3)
        clear hb3 hv3 he3 f0 f1 f2 HEK d0 d1 d2 HBXR
        go_wp2_with fail
        refine (either_any _ _ bs nb3 w3 HV3.out HU3.out (by rw [HE.out.1, HE3.out.1]) (by rw [HE.out.1]; omega) (by rw [HE.out.1, HN.out]; omega)).mono ?_
        rintro e w4 ⟨v4, cs, rfl, hv4, hl4, hx4, hb4⟩
        have HR4 : Hid (Below w1.heap.size w1 w4) := Lib.hid (belowNext HR3.out hb4)
        have HV4 := Lib.hid hv4
        have HU4 := Lib.hid (HU3.out.keep hb4)
        have HE4 := Lib.hid (rep_next (k := 0) (lo := 0) (by omega) HP.out HE3.out HE.out hl4 hx4)
        have HBX4 : Hid (w4.heap[w.heap.size]? = some (.cells #[.int .u8 (63 : Nat), .string ByteArray.empty, .slice (some ⟨b, off, none⟩) 1 c] 30)) := Lib.hid ((HR4.out.block _ (by omega)).trans HBX.out)
        obtain ⟨d0, d1, d2⟩ := three_cells HBX4.out
        have hzd := cell_lt d0
        clear hb4 hv4 hl4 hx4
        go_wp2
        go_ret
        exact ⟨_, cs, rfl, HV4.out, by rw [HQ.out]; exact HE4.out.2.congr fun u _ => up_opt u, HB1.out.trans (HR4.out.mono (by omega))⟩
end Go.Proofs.YtldmimekmjmkgaaDoor

namespace Go.Proofs.YtldmimekmjmkgaaDoor
open Go.RowKit Go.Sort Go.Maps Go.WideMaps

theorem BPart.first {w : World} {g n : Nat} (h : BPart w g n 1 (fun j => j == 0)) : BPart w g n n (fun j => j == 0) := by
  obtain ⟨cur, h1, h2, h3⟩ := h
  refine ⟨cur, h1, h2, fun j hj => ?_⟩
  rw [h3 j hj]
  cases j with
  | zero => rw [decide_eq_true (show 0 < 1 by omega), decide_eq_true hj]
  | succ j => simp
theorem ends_whole {L : Rws} {word : List ByteArray} {bs : List Bool} (h : EndsBy L word (listB (word.length + 1) (fun j => j == 0)) bs) : bs.getD word.length false = true ↔ L word := by
  rw [h.2 _ (Nat.le_refl _)]
  constructor
  · rintro ⟨i, hi, h1, h2⟩
    rw [listB_get (by omega)] at h1
    obtain rfl : i = 0 := by simpa using h1
    rwa [seg_all] at h2
  · intro h1
    exact ⟨0, Nat.zero_le _, listB_get (by omega), by rw [seg_all]; exact h1⟩

set_option maxRecDepth 100000 in
set_option maxHeartbeats 4000000 in
theorem rhas_any (e : Ex) (A : Option Addr) (n c B : Nat) (vw : Value) (word : List ByteArray) (w : World) (he : e.fits) (hsz : sizeE e ≤ 1100000) (hl : Exs w (Under B) (.slice A n c) e.kids) (hw : Strs w (Under B) vw word) (hB : B ≤ w.heap.size) (hwl : word.length ≤ 40) :
    Calls Tryd.prog 25 #[.agg #[.int .u8 (e.op : Int), .string e.name, .slice A n c], vw] w (HasE w e word) := by
  obtain ⟨Aw, cw, rfl, hcw, hcmw, _⟩ := id hw
  unfold maxLen at hcmw
  have HF := Lib.hid he
  have HA := Lib.hid hl
  have HWD := Lib.hid hw
  have HB1 : Hid (Below w.heap.size w (w.alloc (.cells #[.int .u8 (e.op : Int), .string e.name, .slice A n c] 30))) := Lib.hid ((Below.refl _ _).alloc (Nat.le_refl _) _)
  have HN1 : Hid ((w.alloc (.cells #[.int .u8 (e.op : Int), .string e.name, .slice A n c] 30)).heap[w.heap.size]? = some (.cells #[.int .u8 (e.op : Int), .string e.name, .slice A n c] 30)) := Lib.hid (heap_new _ _)
  obtain ⟨i0, hi, hz0, hz1, hz2⟩ := info_parts boolE_info
  generalize hN : word.length = N at *
  have HN := Lib.hid hN
  clear hl hw he hN
  go_enter Tryd.func25, Tryd.ntmps25
  go_wp2_with fail
  generalize hW : w.alloc (.cells #[.int .u8 (e.op : Int), .string e.name, .slice A n c] 30) = w0 at *
  have hz : w.heap.size < w0.heap.size := by rw [← hW]; simp
  clear hW
  refine (rright_any e A n c B w0 HF.out hsz (HA.out.keep (fun _ h => h) fun b hb => HB1.out.block b (Nat.lt_of_lt_of_le hb hB)) (by omega)).mono ?_
  rintro x w2 ⟨rfl, hb2⟩
  have HB2 : Hid (Below w.heap.size w w2) := Lib.hid (HB1.out.trans (hb2.mono HB1.out.size))
  have HN2 : Hid (w2.heap[w.heap.size]? = some (.cells #[.int .u8 (e.op : Int), .string e.name, .slice A n c] 30)) := Lib.hid ((hb2.block _ hz).trans HN1.out)
  have hz2' : w.heap.size < w2.heap.size := by have := hb2.size; omega
  clear hb2 HN1 HB1 hz
  generalize hr : rightE okN e = r at *
  have HR := Lib.hid hr
  clear hr
  cases r with
  | false =>
    go_wp2
    go_ret
    exact ⟨⟨false, rfl, by rw [HR.out]; simp⟩, HB2.out⟩
  | true =>
    have HAL : Hid (allE okN e = true) := Lib.hid (by have h := HR.out; unfold rightE at h; exact (Bool.and_eq_true _ _ ▸ h).1)
    obtain ⟨d0, d1, d2⟩ := three_cells HN2.out
    have hzd := cell_lt d0
    go_wp2_with (first
      | (at_make; refine wpList_make_full _ rfl _ _ 73 rfl w2.heap.size 4 i0 (.bool false) 1 Tryd.underlying73 hi hz0 hz1 .i64 .i64 _ _ (N + 1) rfl rfl (by first | rfl | simp) (by first | rfl | simp) (by rw [hz2]; omega) (by unfold maxLen; omega) (Nat.le_refl _) ?_; intro w3 hown hgrow
         have HB3 : Hid (Below w2.heap.size w2 w3) := Lib.hid ((Below.refl w2.heap.size w2).grown hgrow (Nat.le_refl _) (fun j hj => by cases hj))
         have HPT : Hid (BPart w3 w2.heap.size (N + 1) 0 (fun j => j == 0)) := Lib.hid (made_part hown)
         have fo := HPT.out.cell (j := 0) (by omega)
         have zo := HPT.out.free 0
         have hlo := HPT.out.lt
         have e0 := cell_kept d0 HB3.out
         have e1 := cell_kept d1 HB3.out
         have e2 := cell_kept d2 HB3.out
         clear hown hgrow)
      | fail)
    clear hi hz0 hz1 hz2 d0 d1 d2 hzd
    have HP1 : Hid (BRow (w3.setCell ⟨w2.heap.size, 0, none⟩ (.bool true)) (.slice (some ⟨w2.heap.size, 0, none⟩) (N + 1) (N + 1)) (listB (N + 1) (fun j => j == 0))) := Lib.hid (((HPT.out.next (b := true) (by omega) rfl).first).done (Nat.le_refl _) (Nat.le_refl _) (by unfold maxLen; omega))
    have HB4 : Hid (Below w.heap.size w (w3.setCell ⟨w2.heap.size, 0, none⟩ (.bool true))) := Lib.hid (below_set (HB2.out.trans (HB3.out.mono (by omega))) 0 (.bool true) (by omega))
    clear fo zo HPT HB3 e0 e1 e2
    generalize w3.setCell ⟨w2.heap.size, 0, none⟩ (.bool true) = w4 at *
    refine (rends_walk e A n c B _ word _ (listB (N + 1) (fun j => j == 0)) w4 HF.out HAL.out (by rw [HN.out]; exact hwl) (HA.out.keep (fun _ h => h) fun b hb => HB4.out.block b (Nat.lt_of_lt_of_le hb hB)) (HWD.out.keep (fun _ h => h) fun b hb => HB4.out.block b (Nat.lt_of_lt_of_le hb hB)) (by have := HB4.out.size; omega) HP1.out (by rw [listB_len, HN.out])).mono ?_
    rintro x w5 ⟨v5, bs, rfl, hv5, he5, hb5⟩
    have HB5 : Hid (Below w.heap.size w w5) := Lib.hid (HB4.out.trans (hb5.mono HB4.out.size))
    have hbl : bs.length = N + 1 := by rw [he5.1, HN.out]
    have HEQ : Hid (bs.getD N false = true ↔ lang e word) := Lib.hid (by rw [← HN.out] at he5 ⊢; exact ends_whole he5)
    obtain ⟨g5, c5, rfl, hc5, hm5, hg5, hx5⟩ := hv5
    have fx := hx5 N (by omega)
    rw [hbl]
    unfold maxLen at hm5
    clear hx5 hb5 he5
    generalize bs.getD N false = q at *
    go_wp2
    go_ret
    exact ⟨⟨q, rfl, by rw [HR.out, HEQ.out]; simp⟩, HB5.out⟩

set_option maxRecDepth 100000 in
set_option maxHeartbeats 4000000 in
theorem same_rows (va vb : Value) (l : List ByteArray) (w : World) (ha : Strs w (Under w.heap.size) va l) (hb : Strs w (Under w.heap.size) vb l) :
    Calls Tryd.prog 18 #[va, vb] w fun x w' => x = .returned (.bool true) ∧ Below w.heap.size w w' := by
  obtain ⟨Aa, ca, rfl, hca, hcma, _⟩ := id ha
  obtain ⟨Ab, cb, rfl, hcb, hcmb, _⟩ := id hb
  unfold maxLen at hcma hcmb
  have HA := Lib.hid ha
  have HB := Lib.hid hb
  generalize hN : l.length = N at *
  have HN := Lib.hid hN
  clear ha hb hN
  go_enter Tryd.func18, Tryd.ntmps18
  go_wp2
  go_loopg [5] N (fun g u wx => ∃ i : Nat, u = .int .i64 i ∧ i + g = N ∧ Hid (Below w.heap.size w wx))
  case atStart => exact ⟨0, rfl, by omega, Lib.hid (Below.refl _ _)⟩
  case round =>
    obtain ⟨i, rfl, hig, HR⟩ := hrel
    by_cases hi : i < N
    · obtain ⟨x, hx⟩ : ∃ x, l[i]? = some x := ⟨_, List.getElem?_eq_getElem (by rw [HN.out]; exact hi)⟩
      have HAR : Hid (Strs wr (Under w.heap.size) (.slice Aa N ca) l) := Lib.hid (HA.out.keep (fun _ h => h) fun b hb => HR.out.block b hb)
      have HBR : Hid (Strs wr (Under w.heap.size) (.slice Ab N cb) l) := Lib.hid (HB.out.keep (fun _ h => h) fun b hb => HR.out.block b hb)
      obtain ⟨ba, oa, rfl, cx⟩ := wordAt HAR.out hx
      obtain ⟨bb, ob, rfl, cy⟩ := wordAt HBR.out hx
      have hlx := cell_lt cx
      have hly := cell_lt cy
      have hse : (x.toList == x.toList) = true := by simp
      have HR1 : Hid (Below w.heap.size w wr.drew) := Lib.hid (HR.out.trans ((below_drewX wr).mono HR.out.size))
      obtain ⟨g, rfl⟩ : ∃ g, gk = g + 1 := ⟨gk - 1, by omega⟩
      clear hx
      go_wp2_with fail
      go_region
      all_goals
        go_wp2
        go_roundg g
        case measure => omega
        case rel => exact ⟨i + 1, by go_num, by omega, HR1⟩
    · go_wp2
      go_ret
      exact ⟨rfl, HR.out⟩
end Go.Proofs.YtldmimekmjmkgaaDoor
