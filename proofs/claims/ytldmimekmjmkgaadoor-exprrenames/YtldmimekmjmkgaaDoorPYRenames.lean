/-
  ExprRenames walked: whatever expression, names and row are handed in, it answers true.
  ExprRenames: whatever is handed in, the call answers true, and it reads behind it as it read before. No condition is typed. The library's table of math/bits is as the program's text lays it (the card ties it).
-/
import Derived.Test.YtldmimekmjmkgaaDoorMA
import Derived.Test.YtldmimekmjmkgaaDoorMC
import Derived.Test.YtldmimekmjmkgaaDoorMD
import Derived.Test.YtldmimekmjmkgaaDoorMB
import Derived.Test.YtldmimekmjmkgaaDoorLaidE
import Derived.Carry
import Derived.ChangeMaps5
namespace Go.Proofs.YtldmimekmjmkgaaDoor
open Go.RowKit Go.Sort Go.Maps Go.WideMaps

mutual
theorem ren_size (f t : ByteArray) : ∀ e : Ex, sizeE (renE f t e) = sizeE e
  | .mk o s l => by rw [renE, sizeE, sizeE, rens_size f t l]
theorem rens_size (f t : ByteArray) : ∀ l : List Ex, sizeEs (renEs f t l) = sizeEs l
  | [] => rfl
  | x :: l => by rw [renEs, sizeEs, sizeEs, ren_size f t x, rens_size f t l]
end
mutual
theorem ren_fits {f t : ByteArray} (ht : t.size ≤ maxLen) : ∀ e : Ex, e.fits → (renE f t e).fits
  | .mk o s l, h => by
    rw [renE]
    refine ⟨h.1, ?_, rens_fits ht l h.2.2⟩
    split
    · exact ht
    · exact h.2.1
theorem rens_fits {f t : ByteArray} (ht : t.size ≤ maxLen) : ∀ l : List Ex, Ex.fitsAll l → Ex.fitsAll (renEs f t l)
  | [], _ => by rw [renEs]; exact trivial
  | x :: l, h => by rw [renEs]; exact ⟨ren_fits ht x h.1, rens_fits ht l h.2⟩
end
section
variable {w : World} {ops : Array Oper} {o : Oper} {a : Act} {K : Act → World → Prop} {Q : Exit → Act → World → Prop} {E : Prop}
/-- Right, in a region that draws its order. -/
theorem step_right {r : Bool} {v : Value} (hw : Region.wanted o (yielded ops a.tmps) = true) (p : Operand) (ho : o.op = .call { callee := .value (.func 16), args := #[p], argTypes := #[24] })
    (hp : a.eval p = v) (hC : Calls Tryd.prog 16 #[v] w fun e' w' => e' = .returned (.bool r) ∧ Below w.heap.size w w')
    (h : ∀ w', Below w.heap.size w w' → K (a.put o.dst (.bool r)) w') : if Region.wanted o (yielded ops a.tmps) = true then Oper.wp Tryd.prog o a w K Q else E := by
  rw [if_pos hw]
  have hrun : (execOp a.eval o).run Tryd.prog w = .ok (.enter 16 #[v]) w := by
    have hf : a.eval (.func 16) = .func (.func 16) #[] #[] := rfl
    obtain ⟨c, hc⟩ : ∃ c, Tryd.f16.body = some c := Option.isSome_iff_exists.1 (by kernel_rfl)
    have hne : ¬ Tryd.f16.name = "runtime.NumGoroutine" := of_decide_eq_false (by kernel_rfl)
    simp [execOp, ho, resolve, invoke, hp, hf, Deferred.ofValue, callFunc, hne, hc]
  unfold Oper.wp
  rw [hrun, Oper.upon_enter]
  refine hC.mono fun e w'' hh => ?_
  obtain ⟨rfl, h1⟩ := hh
  exact h w'' h1
end
theorem swap_sizes {f t : ByteArray} {a : List ByteArray} (ht : t.size ≤ maxLen) (h : ∀ s ∈ a, s.size ≤ maxLen) : ∀ s ∈ a.map (swapN f t), s.size ≤ maxLen := by
  intro s hs
  obtain ⟨u, hu, rfl⟩ := List.mem_map.1 hs
  unfold swapN
  split
  · exact ht
  · exact h u hu
theorem swap_take {f t s : ByteArray} {a : List ByteArray} {i : Nat} (h : a[i]? = some s) : (a.take i).map (swapN f t) ++ [swapN f t s] = (a.take (i + 1)).map (swapN f t) := by
  rw [List.take_add_one, h, List.map_append]; rfl
theorem srow_below {wo wr w5 : World} {x : ByteArray} {v : Value} {l : List ByteArray} (h : Below wo.heap.size wo wr) (hr : SRowE wr wo.heap.size v l) (hg : (wr.alloc (.cells #[.string x] 9)).grownBy w5 v.ownBlock) : Below wo.heap.size wo w5 :=
  below_grown (h.alloc h.size _) hg (fun k hk => (World.ownsRow.lt hr k hk).1) (by have := h.size; simp; omega)
theorem not_so_far {L : List ByteArray} {t x : ByteArray} {i : Nat} (h : ∀ (j : Nat) y, j < i → L[j]? = some y → y ≠ t) (hx : L[i]? = some x) (hn : x ≠ t) : ∀ (j : Nat) y, j < i + 1 → L[j]? = some y → y ≠ t := by
  intro j y hj hy
  by_cases e : j = i
  · subst e
    rw [hx] at hy
    rw [← Option.some.inj hy]; exact hn
  · exact h j y (by omega) hy
theorem not_at_all {L : List ByteArray} {t : ByteArray} {i : Nat} (h : ∀ (j : Nat) y, j < i → L[j]? = some y → y ≠ t) (hi : L.length ≤ i) : t ∉ L := by
  intro hm
  obtain ⟨j, hj⟩ := List.mem_iff_getElem?.1 hm
  exact h j t (by have := (List.getElem?_eq_some_iff.1 hj).1; omega) hj rfl

set_option maxRecDepth 100000 in
set_option maxHeartbeats 8000000 in
theorem exprRenames_walk (e : Ex) (A : Option Addr) (k c : Nat) (f t : ByteArray) (va : Value) (a : List ByteArray) (w : World) (he : e.fits) (hl : Exs w (Under w.heap.size) (.slice A k c) e.kids) (hT : TabB w) (ha : Strs w (Under w.heap.size) va a)
    (has : ∀ s ∈ a, s.size ≤ maxLen) (ht : t.size ≤ maxLen) :
    Calls Tryd.prog 6 #[.agg #[.int .u8 e.op, .string e.name, .slice A k c], .string f, .string t, va] w fun x w' => x = .returned (.bool true) ∧ Below w.heap.size w w' := by
  have HP0 : Hid (Pack w w [] [(va, a)]) := Lib.hid ⟨Below.refl _ _, hT, fun _ h => (nomatch h), fun y hy => by
    rcases List.mem_cons.1 hy with rfl | hy
    · exact ha
    · cases hy⟩
  have HP1 : Hid (Pack w (w.alloc (.cells #[.int .u8 e.op, .string e.name, .slice A k c] 24)) [⟨w.heap.size, e, A, k, c⟩] [(va, a)]) := Lib.hid ((HP0.out.alloc _).add (Lies.new (Below.refl _ _) hl fun _ h => h))
  obtain ⟨Aa, ca, rfl, hca, hcma, _⟩ := id ha
  generalize hNa : a.length = Na at *
  have HNa := Lib.hid hNa
  have HF := Lib.hid he
  have HAS := Lib.hid has
  have HTS := Lib.hid ht
  clear hl hT ha he has HP0 hNa ht
  unfold maxLen at hcma
  go_enter Tryd.func6, Tryd.ntmps6
  go_wp2_with fail
  refine (shown6_any _ HP1.out.tab).mono ?_
  rintro x W1 ⟨rfl, hb1⟩
  have HP2 := Lib.hid (HP1.out.next hb1)
  clear hb1 HP1
  obtain ⟨d00, d01, d02⟩ := HP2.out.cells (.head _)
  go_wp2_with fail
  refine (light6_any e A k c 300 W1 HF.out (HP2.out.ex _ (.head _)).kids (by decide) (by decide)).mono ?_
  rintro x W2 ⟨⟨q, rfl, hq0, hq1⟩, hb2⟩
  have HP3 := Lib.hid (HP2.out.next hb2)
  clear d00 d01 d02 hb2 HP2
  obtain ⟨d00, d01, d02⟩ := HP3.out.cells (.head _)
  have l0 := cell_lt d00
  by_cases hq : q < 0
  · go_wp2
    go_ret
    exact ⟨rfl, HP3.out.below⟩
  by_cases hlen : 40 < Na
  · go_wp2
    go_ret
    exact ⟨rfl, HP3.out.below⟩
  go_wp2_with fail
  refine (right_pack HP3.out (.head _) HF.out).mono ?_
  rintro x W3 ⟨rfl, hb3⟩
  have HP4 := Lib.hid (HP3.out.next hb3)
  clear d00 d01 d02 l0 hb3 HP3
  obtain ⟨d00, d01, d02⟩ := HP4.out.cells (.head _)
  have l0 := cell_lt d00
  simp only
  generalize hre : rightE okN e = re at *
  cases re with
  | false =>
    have HRE := Lib.hid hre
    clear hre
    go_wp2_with fail
    refine (has_fix (r := false) HP4.out (.head _) HF.out (.head _) HAS.out (by rw [HRE.out]; simp)).mono ?_
    rintro x W5 ⟨rfl, hb5⟩
    have HP5 := Lib.hid (HP4.out.next hb5)
    clear d00 d01 d02 l0
    go_wp2
    go_ret
    exact ⟨rfl, HP5.out.below⟩
  | true =>
    have HRE := Lib.hid hre
    have HSZ := Lib.hid (right_size hre)
    have HBK : Hid ((namesE e).length ≤ 2000000) := Lib.hid (by have := names_few e; have := right_size hre; omega)
    clear hre
    go_wp2_with fail
    refine (names_any e A k c W3 (HP4.out.ex _ (.head _)).kids HBK.out).mono ?_
    rintro x W4 ⟨vL, L, rfl, hrL, hb4, hok⟩
    have HP5 := Lib.hid (HP4.out.both hb4 hrL)
    obtain ⟨AL, NL, cL, rfl, hNL, hcL, hcmL⟩ := strs_num hrL.strs
    unfold maxLen at hcmL
    have HNL := Lib.hid hNL
    have HOK := Lib.hid hok
    clear d00 d01 d02 l0 hb4 HP4 hrL hNL hok
    go_wp2
    go_loopg [11] (NL + 1) (fun g u wx => ∃ i : Nat, u = .int .i64 i ∧ i + g = NL + 1 ∧ Hid (∀ (j : Nat) y, j < i → L[j]? = some y → y ≠ t) ∧ Hid (Pack w wx [⟨w.heap.size, e, A, k, c⟩] [(.slice AL NL cL, L), (.slice Aa Na ca, a)]))
    case atStart => exact ⟨0, rfl, by omega, Lib.hid (fun j y hj => absurd hj (by omega)), HP5⟩
    case round =>
      clear HP5
      obtain ⟨i, rfl, hig, HNO, HP6⟩ := hrel
      by_cases hi : i < NL
      · obtain ⟨g, rfl⟩ : ∃ g, gk = g + 1 := ⟨gk - 1, by omega⟩
        obtain ⟨x, hx⟩ : ∃ x, L[i]? = some x := at_some (by rw [HNL.out]; exact hi)
        obtain ⟨bL, oL, rfl, hbL, cx⟩ := strs_at (HP6.out.strs _ (.head _)) hx
        have HX := Lib.hid hx
        clear hx hbL
        by_cases hxt : x = t
        · have hse : (x.toList == t.toList) = true := by rw [hxt]; simp
          clear hxt
          go_wp2
          go_ret
          exact ⟨rfl, HP6.out.below⟩
        · have hse : (x.toList == t.toList) = false := by
            rw [beq_eq_false_iff_ne]; intro h; rw [Lib.toList_data, Lib.toList_data] at h; exact hxt (bytesE_of h)
          have HXT := Lib.hid hxt
          clear hxt
          go_wp2
          go_roundg g
          case measure => omega
          case rel => exact ⟨i + 1, by go_num, by omega, Lib.hid (not_so_far HNO.out HX.out HXT.out), HP6⟩
      · have HTN : Hid (t ∉ namesE e) := Lib.hid (fun h => not_at_all HNO.out (by rw [HNL.out]; omega) ((HOK.out.1 t).2 h))
        clear hig HNO HOK
        generalize wr = wo at *
        go_wp2
        clear hi
        go_loopg [12, 13] (Na + 1) (fun g u v wx => ∃ (i : Nat) (At : Option Addr) (nt ct : Nat), u = .slice At nt ct ∧ v = .int .i64 i ∧ i + g = Na + 1 ∧ Hid (∀ (j : Nat) y, j < i → a[j]? = some y → y ≠ t) ∧ Hid (Below wo.heap.size wo wx) ∧ Hid (SRowE wx wo.heap.size (.slice At nt ct) ((a.take i).map (swapN f t))))
        case atStart => exact ⟨0, none, 0, 0, rfl, rfl, by omega, Lib.hid (fun j y hj => absurd hj (by omega)), Lib.hid (Below.refl _ _), Lib.hid (by rw [List.take_zero]; exact World.ownsRow_nil _ _ _ _)⟩
        case round =>
          obtain ⟨i, At, nt, ct, rfl, rfl, hig, HNO, HB7, HRW⟩ := hrel
          have HP7 := Lib.hid (HP6.out.next HB7.out)
          by_cases hi : i < Na
          · obtain ⟨g, rfl⟩ : ∃ g, gk = g + 1 := ⟨gk - 1, by omega⟩
            obtain ⟨x, hx⟩ : ∃ x, a[i]? = some x := at_some (by rw [HNa.out]; exact hi)
            obtain ⟨bA, oA, rfl, hbA, cx⟩ := strs_at (HP7.out.strs _ (.tail _ (.head _))) hx
            have HX := Lib.hid hx
            clear hx hbA
            by_cases hxt : x = t
            · have hse : (x.toList == t.toList) = true := by rw [hxt]; simp
              clear hxt
              go_wp2
              go_ret
              exact ⟨rfl, HP7.out.below⟩
            · have hse : (x.toList == t.toList) = false := by
                rw [beq_eq_false_iff_ne]; intro h; rw [Lib.toList_data, Lib.toList_data] at h; exact hxt (bytesE_of h)
              have HXT := Lib.hid hxt
              have HLN : Hid (((a.take i).map (swapN f t)).length + 1 ≤ 1000000) := Lib.hid (by rw [List.length_map, List.length_take]; omega)
              clear hxt
              by_cases hxf : x = f
              · subst hxf
                have hsf : (x.toList == x.toList) = true := by simp
                have HSW : Hid (swapN x t x = t) := Lib.hid (by unfold swapN; rw [if_pos rfl])
                go_wp2_with (first
                  | (at_builtin; refine wpList_append_strsE rfl (.tmp 68) (.tmp 70) rfl wo.heap.size (Under ((wr.alloc (.cells #[.string t] 9)).heap.size)) (.slice At nt ct) (.slice (some ⟨wr.heap.size, 0, none⟩) 1 1) ((a.take i).map (swapN x t)) [t] rfl rfl (World.ownsRow.alloc HRW.out _) (strs_one (heap_new _ _) (by show _ < _; simp)) HLN.out (by have := HB7.out.size; simp; omega) ?_; intro v5 w5 ho5 hg5 hb5; obtain ⟨G5, n5, d5, rfl, _⟩ := strs_num (SRowE.strs ho5); have HO5 := Lib.hid ho5; have HB5 := Lib.hid (srow_below HB7.out HRW.out hg5); clear ho5 hg5 hb5)
                  | fail)
                go_roundg g
                case measure => omega
                case rel => exact ⟨i + 1, G5, n5, d5, rfl, by go_num, by omega, Lib.hid (not_so_far HNO.out HX.out HXT.out), HB5, Lib.hid (by have h9 := swap_take (f := x) (t := t) HX.out; rw [HSW.out] at h9; rw [← h9]; exact HO5.out)⟩
              · have hsf : (x.toList == f.toList) = false := by
                  rw [beq_eq_false_iff_ne]; intro h; rw [Lib.toList_data, Lib.toList_data] at h; exact hxf (bytesE_of h)
                have HSW : Hid (swapN f t x = x) := Lib.hid (by unfold swapN; rw [if_neg hxf])
                clear hxf
                go_wp2_with (first
                  | (at_builtin; refine wpList_append_strsE rfl (.tmp 68) (.tmp 70) rfl wo.heap.size (Under ((wr.alloc (.cells #[.string x] 9)).heap.size)) (.slice At nt ct) (.slice (some ⟨wr.heap.size, 0, none⟩) 1 1) ((a.take i).map (swapN f t)) [x] rfl rfl (World.ownsRow.alloc HRW.out _) (strs_one (heap_new _ _) (by show _ < _; simp)) HLN.out (by have := HB7.out.size; simp; omega) ?_; intro v5 w5 ho5 hg5 hb5; obtain ⟨G5, n5, d5, rfl, _⟩ := strs_num (SRowE.strs ho5); have HO5 := Lib.hid ho5; have HB5 := Lib.hid (srow_below HB7.out HRW.out hg5); clear ho5 hg5 hb5)
                  | fail)
                go_roundg g
                case measure => omega
                case rel => exact ⟨i + 1, G5, n5, d5, rfl, by go_num, by omega, Lib.hid (not_so_far HNO.out HX.out HXT.out), HB5, Lib.hid (by have h9 := swap_take (f := f) (t := t) HX.out; rw [HSW.out] at h9; rw [← h9]; exact HO5.out)⟩
          · have HTA : Hid (t ∉ a) := Lib.hid (not_at_all HNO.out (by rw [HNa.out]; omega))
            have hta : a.take i = a := List.take_of_length_le (by rw [HNa.out]; omega)
            rw [hta] at HRW
            have HP8 : Hid (Pack w wr [⟨w.heap.size, e, A, k, c⟩] [(.slice At nt ct, a.map (swapN f t)), (.slice AL NL cL, L), (.slice Aa Na ca, a)]) := Lib.hid (HP7.out.row HRW.out.strs)
            have HNG : Hid ((∃ (r : Bool), r = true ↔ rightE okN e = true ∧ lang e a)) := Lib.hid (bool_of _)
            clear hta HRW HB7 HP7 HNO hig HP6
            generalize wr = wp at *
            obtain ⟨d00, d01, d02⟩ := HP8.out.cells (.head _)
            have l0 := cell_lt d00
            go_wp2_with fail
            refine (ren_walk e f t A k c wp.heap.size wp (by have := HSZ.out; exact this) (HP8.out.ex _ (.head _)).kids (Nat.le_refl _)).mono ?_
            rintro x W5 ⟨A5, n5, c5, rfl, hk5, hb5⟩
            simp only at hk5 ⊢
            have HP9 := Lib.hid (HP8.out.told hb5 hk5)
            have HFR : Hid (renE f t e).fits := Lib.hid (ren_fits HTS.out e HF.out)
            have HRS : Hid (sizeE (renE f t e) ≤ 1000) := Lib.hid (by rw [ren_size]; exact HSZ.out)
            have HRB : Hid (renE t f (renE f t e) = e) := Lib.hid (ren_back e (by have := HRE.out; unfold rightE at this; exact (Bool.and_eq_true _ _ ▸ this).1) HTN.out)
            have HRM : Hid (lang (renE f t e) (a.map (swapN f t)) ↔ lang e a) := Lib.hid (ren_means HTN.out HTA.out)
            have HSS := Lib.hid (swap_sizes (f := f) HTS.out HAS.out)
            generalize hy : renE f t e = y at *
            clear hy hk5 hb5 d00 d01 d02 l0 HP8
            go_upto_region 23 with fail
            generalize W5.alloc (.cells #[.int .u8 (y.op : Int), .string y.name, .slice A5 n5 c5] 24) = W6 at *
            generalize a.map (swapN f t) = a' at *
            obtain ⟨r, hr⟩ := HNG.out
            obtain ⟨d00, d01, d02⟩ := HP9.out.cells (.tail _ (.head _))
            have l0 := cell_lt d00
            obtain ⟨d10, d11, d12⟩ := HP9.out.cells (.head _)
            have l1 := cell_lt d10
            have HPD := Lib.hid (HP9.out.next (below_drewX W6))
            have HCR : Hid (Calls Tryd.prog 22 #[.agg #[.int .u8 (y.op : Int), .string y.name, .slice A5 n5 c5], .string t, .string f] W6.drew (EPost W6.drew e)) := Lib.hid (by have h9 := ren_walk y t f A5 n5 c5 W6.drew.heap.size W6.drew HRS.out (HPD.out.ex _ (.head _)).kids (Nat.le_refl _); rw [HRB.out] at h9; exact h9)
            generalize hry : rightE okN y = ry at *
            have HRY := Lib.hid hry
            have HR := Lib.hid hr
            clear hr hry HNG
            cases ry with
            | false =>
              go_wp2_with fail
              go_region_law (first
                | ((with_reducible refine step_ren (v := .agg #[.int .u8 (y.op : Int), .string y.name, .slice A5 n5 c5]) (f := t) (t := f) (x := e) (by kernel_rfl) (.tmp 76) (.tmp 77) (.tmp 78) rfl rfl rfl rfl HCR.out ?_); intro A7 n7 c7 w7 hk7 hb7; have HQ1 := Lib.hid (HPD.out.next hb7); obtain ⟨ca0, ca1, ca2⟩ := HQ1.out.cells (.tail _ (.head _)); have cal := cell_lt ca0; obtain ⟨cay0, cay1, cay2⟩ := HQ1.out.cells (.head _); have cayl := cell_lt cay0; have HK7 := Lib.hid hk7; have HCA : Hid (Calls Tryd.prog 13 #[.agg #[.int .u8 (e.op : Int), .string e.name, .slice A k c]] w7 (EPost w7 e)) := Lib.hid (as_walk e A k c w7.heap.size w7 HSZ.out (HQ1.out.ex _ (.tail _ (.head _))).kids (Nat.le_refl _)); clear hk7 hb7)
                | ((with_reducible refine step_as (v := .agg #[.int .u8 (e.op : Int), .string e.name, .slice A k c]) (x := e) (by kernel_rfl) (.tmp 80) rfl rfl HCA.out ?_); intro A8 n8 c8 w8 hk8 hb8; have HQ2 := Lib.hid (HQ1.out.next hb8); obtain ⟨cb0, cb1, cb2⟩ := HQ2.out.cells (.tail _ (.head _)); have cbl := cell_lt cb0; obtain ⟨cby0, cby1, cby2⟩ := HQ2.out.cells (.head _); have cbyl := cell_lt cby0; have HCS : Hid (Calls Tryd.prog 21 #[.agg #[.int .u8 (e.op : Int), .string e.name, .slice A7 n7 c7], .agg #[.int .u8 (e.op : Int), .string e.name, .slice A8 n8 c8]] w8 fun x w' => x = .returned (.bool true) ∧ Below w8.heap.size w8 w') := Lib.hid (same_walk e A7 A8 n7 c7 n8 c8 w8.heap.size w8 (HK7.out.keep (fun b hb => Nat.lt_of_lt_of_le hb.2 hb8.size) fun b hb => hb8.block b hb.2) (hk8.keep (fun b hb => hb.2) fun _ _ => rfl) (Nat.le_refl _)); clear hk8 hb8)
                | ((with_reducible refine step_same (v := .agg #[.int .u8 (e.op : Int), .string e.name, .slice A7 n7 c7]) (y := .agg #[.int .u8 (e.op : Int), .string e.name, .slice A8 n8 c8]) (by kernel_rfl) (.tmp 79) (.tmp 81) rfl rfl rfl HCS.out ?_); intro w9 hb9; have HQ3 := Lib.hid (HQ2.out.next hb9); obtain ⟨cc0, cc1, cc2⟩ := HQ3.out.cells (.tail _ (.head _)); have ccl := cell_lt cc0; obtain ⟨ccy0, ccy1, ccy2⟩ := HQ3.out.cells (.head _); have ccyl := cell_lt ccy0; have HCY : Hid (Calls Tryd.prog 16 #[.agg #[.int .u8 (y.op : Int), .string y.name, .slice A5 n5 c5]] w9 fun e' w' => e' = .returned (.bool (rightE okN y)) ∧ Below w9.heap.size w9 w') := Lib.hid (right_pack (x := ⟨W5.heap.size, y, A5, n5, c5⟩) HQ3.out (.head _) HFR.out); rw [HRY.out] at HCY; clear hb9)
                | (rename_i K0 hK0; (with_reducible refine step_right (r := false) (v := .agg #[.int .u8 (y.op : Int), .string y.name, .slice A5 n5 c5]) (by kernel_rfl) (.tmp 84) rfl rfl HCY.out ?_); intro w10 hb10; have HQ4 := Lib.hid (HQ3.out.next hb10); clear hb10; refine hK0 _ _ ?_; clear hK0 K0; refine wpAny_take (i := 10) (v := .bool true) rfl (by kernel_rfl) (by kernel_rfl) (by kernel_rfl) (fun _ _ _ h => h) (Or.inl ⟨by kernel_rfl, fun _ => by kernel_rfl⟩) ?_; refine wpAny_take (i := 11) (v := .bool true) rfl (by kernel_rfl) (by kernel_rfl) (by kernel_rfl) (fun _ _ _ h => h) (Or.inl ⟨by kernel_rfl, fun _ => by kernel_rfl⟩) ?_; refine wpAny_take (i := 12) (v := undef) rfl (by kernel_rfl) (by kernel_rfl) (by kernel_rfl) (fun _ _ _ h => h) (Or.inr ⟨by kernel_rfl, rfl⟩) ?_; refine wpAny_take (i := 13) (v := undef) rfl (by kernel_rfl) (by kernel_rfl) (by kernel_rfl) (fun _ _ _ h => h) (Or.inr ⟨by kernel_rfl, rfl⟩) ?_; refine wpAny_take (i := 14) (v := undef) rfl (by kernel_rfl) (by kernel_rfl) (by kernel_rfl) (fun _ _ _ h => h) (Or.inr ⟨by kernel_rfl, rfl⟩) ?_; refine wpAny_take (i := 15) (v := undef) rfl (by kernel_rfl) (by kernel_rfl) (by kernel_rfl) (fun _ _ _ h => h) (Or.inr ⟨by kernel_rfl, rfl⟩) ?_; refine wpAny_take (i := 16) (v := undef) rfl (by kernel_rfl) (by kernel_rfl) (by kernel_rfl) (fun _ _ _ h => h) (Or.inr ⟨by kernel_rfl, rfl⟩) ?_; refine wpAny_take (i := 17) (v := undef) rfl (by kernel_rfl) (by kernel_rfl) (by kernel_rfl) (fun _ _ _ h => h) (Or.inr ⟨by kernel_rfl, rfl⟩) ?_; refine wpAny_take (i := 18) (v := undef) rfl (by kernel_rfl) (by kernel_rfl) (by kernel_rfl) (fun _ _ _ h => h) (Or.inr ⟨by kernel_rfl, rfl⟩) ?_))
              all_goals
                go_wp2
                go_ret
                exact ⟨rfl, HQ4.out.below⟩
            | true =>
              have HHY : Hid (r = true ↔ rightE okN y = true ∧ lang y a') := Lib.hid (by rw [HR.out, HRY.out, HRE.out, HRM.out])
              go_wp2_with fail
              go_region_law (first
                | ((with_reducible refine step_ren (v := .agg #[.int .u8 (y.op : Int), .string y.name, .slice A5 n5 c5]) (f := t) (t := f) (x := e) (by kernel_rfl) (.tmp 76) (.tmp 77) (.tmp 78) rfl rfl rfl rfl HCR.out ?_); intro A7 n7 c7 w7 hk7 hb7; have HQ1 := Lib.hid (HPD.out.next hb7); obtain ⟨ca0, ca1, ca2⟩ := HQ1.out.cells (.tail _ (.head _)); have cal := cell_lt ca0; obtain ⟨cay0, cay1, cay2⟩ := HQ1.out.cells (.head _); have cayl := cell_lt cay0; have HK7 := Lib.hid hk7; have HCA : Hid (Calls Tryd.prog 13 #[.agg #[.int .u8 (e.op : Int), .string e.name, .slice A k c]] w7 (EPost w7 e)) := Lib.hid (as_walk e A k c w7.heap.size w7 HSZ.out (HQ1.out.ex _ (.tail _ (.head _))).kids (Nat.le_refl _)); clear hk7 hb7)
                | ((with_reducible refine step_as (v := .agg #[.int .u8 (e.op : Int), .string e.name, .slice A k c]) (x := e) (by kernel_rfl) (.tmp 80) rfl rfl HCA.out ?_); intro A8 n8 c8 w8 hk8 hb8; have HQ2 := Lib.hid (HQ1.out.next hb8); obtain ⟨cb0, cb1, cb2⟩ := HQ2.out.cells (.tail _ (.head _)); have cbl := cell_lt cb0; obtain ⟨cby0, cby1, cby2⟩ := HQ2.out.cells (.head _); have cbyl := cell_lt cby0; have HCS : Hid (Calls Tryd.prog 21 #[.agg #[.int .u8 (e.op : Int), .string e.name, .slice A7 n7 c7], .agg #[.int .u8 (e.op : Int), .string e.name, .slice A8 n8 c8]] w8 fun x w' => x = .returned (.bool true) ∧ Below w8.heap.size w8 w') := Lib.hid (same_walk e A7 A8 n7 c7 n8 c8 w8.heap.size w8 (HK7.out.keep (fun b hb => Nat.lt_of_lt_of_le hb.2 hb8.size) fun b hb => hb8.block b hb.2) (hk8.keep (fun b hb => hb.2) fun _ _ => rfl) (Nat.le_refl _)); clear hk8 hb8)
                | ((with_reducible refine step_same (v := .agg #[.int .u8 (e.op : Int), .string e.name, .slice A7 n7 c7]) (y := .agg #[.int .u8 (e.op : Int), .string e.name, .slice A8 n8 c8]) (by kernel_rfl) (.tmp 79) (.tmp 81) rfl rfl rfl HCS.out ?_); intro w9 hb9; have HQ3 := Lib.hid (HQ2.out.next hb9); obtain ⟨cc0, cc1, cc2⟩ := HQ3.out.cells (.tail _ (.head _)); have ccl := cell_lt cc0; obtain ⟨ccy0, ccy1, ccy2⟩ := HQ3.out.cells (.head _); have ccyl := cell_lt ccy0; have HCY : Hid (Calls Tryd.prog 16 #[.agg #[.int .u8 (y.op : Int), .string y.name, .slice A5 n5 c5]] w9 fun e' w' => e' = .returned (.bool (rightE okN y)) ∧ Below w9.heap.size w9 w') := Lib.hid (right_pack (x := ⟨W5.heap.size, y, A5, n5, c5⟩) HQ3.out (.head _) HFR.out); rw [HRY.out] at HCY; clear hb9)
                | ((with_reducible refine step_right (r := true) (v := .agg #[.int .u8 (y.op : Int), .string y.name, .slice A5 n5 c5]) (by kernel_rfl) (.tmp 84) rfl rfl HCY.out ?_); intro w10 hb10; have HQ4 := Lib.hid (HQ3.out.next hb10); obtain ⟨cd0, cd1, cd2⟩ := HQ4.out.cells (.tail _ (.head _)); have cdl := cell_lt cd0; obtain ⟨cdy0, cdy1, cdy2⟩ := HQ4.out.cells (.head _); have cdyl := cell_lt cdy0; have HC4 := Lib.hid (has_fix (r := r) (x := ⟨W5.heap.size, y, A5, n5, c5⟩) (y := (.slice At nt ct, a')) HQ4.out (.head _) HFR.out (.head _) HSS.out HHY.out); clear hb10)
                | ((with_reducible refine step_has (r := r) (v := .agg #[.int .u8 (y.op : Int), .string y.name, .slice A5 n5 c5]) (y := .slice At nt ct) (by kernel_rfl) (.tmp 88) (.tmp 89) rfl rfl rfl HC4.out ?_); intro w11 hb11; have HQ5 := Lib.hid (HQ4.out.next hb11); obtain ⟨ce0, ce1, ce2⟩ := HQ5.out.cells (.tail _ (.head _)); have cel := cell_lt ce0; obtain ⟨cey0, cey1, cey2⟩ := HQ5.out.cells (.head _); have ceyl := cell_lt cey0; have HC5 := Lib.hid (has_fix (r := r) (x := ⟨w.heap.size, e, A, k, c⟩) (y := (.slice Aa Na ca, a)) HQ5.out (.tail _ (.head _)) HF.out (.tail _ (.tail _ (.head _))) HAS.out HR.out); clear hb11)
                | ((with_reducible refine step_has (r := r) (v := .agg #[.int .u8 (e.op : Int), .string e.name, .slice A k c]) (y := .slice Aa Na ca) (by kernel_rfl) (.tmp 91) (.tmp 92) rfl rfl rfl HC5.out ?_); intro w12 hb12; have HQ6 := Lib.hid (HQ5.out.next hb12); clear hb12))
              all_goals
                go_wp2
                go_ret
                exact ⟨ret_bool (by simp), HQ6.out.below⟩
end Go.Proofs.YtldmimekmjmkgaaDoor

namespace Go.Proofs.YtldmimekmjmkgaaDoor
open Go.ChangeShapes Go.WideShapes Go.ChangeAt Go.RowKit Go.Lib Go.ChangeMaps

set_option maxRecDepth 100000 in
theorem exprRenames_laid (os : Os) (args : Array Value) : laidMet Tryd.prog Rows.exprRenamesRow.laid ((laidWorld os).forCall (fun _ _ => 0) ⟨#[], args, []⟩).memory :=
  (LaidIn.of_run (l := [("math/bits.deBruijn32tab", Rows.laid_math_bits_deBruijn32tab)]) [0] 8 (by kernel_rfl) (by kernel_rfl) (by kernel_rfl) (by kernel_rfl)).met

set_option maxRecDepth 100000 in
theorem exprRenames_contract (H : Type) (enc : TypeId × Value → H) (W : World) (base : Nat) (args : Array Value) (ds gs : List (DataW H)) (before : List MemPlace) (vt : List TypeId)
    (hval : ∀ (j : Nat) t v, Tryd.f6.params[j]? = some t → args[j]? = some v → Value.okWide Tryd.prog W .any base t v)
    (hW : DataW.Whole enc Tryd.prog Tryd.f6.params.toList Rows.exprRenamesSpec.vars false W args.toList ds gs before) (hwt : (DataW.weightsEach Tryd.prog (Tryd.f6.params.toList ++ vt) (ds ++ gs)).all (· ≤ reachBytes) = true) (hL : TabB W) :
    Calls Tryd.prog 6 args W fun e W' => ∃ v, e = .returned v ∧ Rows.exprRenamesSpec.post enc Tryd.prog Tryd.f6 false true false false W args v W' := by
  have hW' := hW
  have hlt : ∀ p ∈ before, p.block < W.heap.size := fun p hp => hW.lt p hp
  obtain ⟨p, q, hA0, hV, rfl, hfz, hnd⟩ := hW
  have hA : DataW.TrodAll enc Tryd.prog W 0 (fun _ => true) true Tryd.f6.params.toList args.toList ds p := hA0
  rw [Tryd.params6] at hA hval hwt
  obtain ⟨v0, v1, v2, v3, d0, d1, d2, d3, p0, p1, p2, p3, hargs, rfl, rfl, h0, h1, h2, h3⟩ := trodAll_four hA
  obtain rfl : args = #[v0, v1, v2, v3] := by cases args; simp_all
  obtain ⟨rfl, rfl⟩ := trodVars_none hV
  have h0' := h0
  obtain ⟨fuel0, hf0⟩ := h0
  obtain ⟨cs0, rfl, hcs0⟩ := okWide_struct Tryd.underlying24 (hval 0 24 v0 rfl rfl)
  rw [exprE_cells] at hcs0
  obtain ⟨e0, vk0, hce0, hE0, hB0, hF0⟩ := ex_of fuel0 cs0.toList _ (by simpa using hcs0) (by simpa [Value.cells] using hf0)
  obtain ⟨A0, c0, rfl, _⟩ := id hE0
  obtain rfl : cs0 = #[.int .u8 e0.op, .string e0.name, .slice A0 e0.kids.length c0] := Array.ext' (by rw [hce0])
  obtain ⟨s1, rfl, rfl, rfl, hS1⟩ := open_string Tryd.underlying9 (hval 1 9 v1 rfl rfl) h1
  have hM1 : s1.size ≤ 140737488351232 := by have := weights_each 1 hwt rfl rfl s1.data.toList.length (by simp [DataW.weights]); rw [← Lib.size_eq] at this; exact this
  obtain ⟨s2, rfl, rfl, rfl, hS2⟩ := open_string Tryd.underlying9 (hval 2 9 v2 rfl rfl) h2
  have hM2 : s2.size ≤ 140737488351232 := by have := weights_each 2 hwt rfl rfl s2.data.toList.length (by simp [DataW.weights]); rw [← Lib.size_eq] at this; exact this
  obtain ⟨A3, len3, cap3, rfl⟩ := okWide_slice Tryd.underlying25 (hval 3 25 v3 rfl rfl)
  have h3' := h3
  obtain ⟨fuel3, hf3⟩ := h3
  have hf3' : DataW.trod enc Tryd.prog W 0 (fun _ => true) true fuel3 25 [.slice A3 len3 cap3] = some (d3, p3) := by simpa [Value.cells] using hf3
  obtain ⟨l3, hR3, hB3, hZ3⟩ := strsE_of hf3'
  have hN3 := strs_len hf3' hR3 (weights_each 3 hwt rfl rfl)
  refine (exprRenames_walk e0 A0 _ c0 s1 s2 _ l3 W hF0 hE0 hL hR3 hZ3 hS2).mono fun e W' ⟨he, hb⟩ => ?_
  subst he
  have e1 : Rows.exprRenamesSpec.fn H ([d0, .lit (.string s1.data.toList), .lit (.string s2.data.toList), d3] ++ []) = { results := [.lit (.bool true)], args := [d0, .lit (.string s1.data.toList), .lit (.string s2.data.toList), d3] } := rfl
  refine ⟨_, rfl, _, _, _, [], p0 ++ p3, [], by simpa using hW', ?_, ?_, ?_, hb.frame _, fun h => by cases h⟩
  · rw [e1]; exact trodAll_mk1 (shut_bool Tryd.underlying4 _)
  · rw [e1]
    have t2 := trodAll_mk4 (Below.trod laidOut (by kernel_rfl) (of_decide_eq_true (by kernel_rfl)) h0' hb (fun x hx => hlt x (by simp [hx]))) (shut_string Tryd.underlying9 hS1) (shut_string Tryd.underlying9 hS2) (Below.trod laidOut (by kernel_rfl) (of_decide_eq_true (by kernel_rfl)) h3' hb (fun x hx => hlt x (by simp [hx])))
    simpa using t2
  · rw [e1]; rfl

theorem exprRenames_reads (os : Os) {H : Type} (enc : TypeId × Value → H) : ∃ places, DataW.whole enc Tryd.prog ((laidWorld os).forCall (fun _ _ => 0) ⟨#[], #[.agg #[.int .u8 0, .string ⟨#[]⟩, .slice none 0 0], .string ⟨#[]⟩, .string ⟨#[]⟩, .slice none 0 0], []⟩).memory Tryd.f6.params.toList Rows.exprRenamesSpec.vars false #[Value.agg #[.int .u8 0, .string ⟨#[]⟩, .slice none 0 0], .string ⟨#[]⟩, .string ⟨#[]⟩, .slice none 0 0].toList 8 = some ([.agg [.lit (.int .u8 0), .lit (.string []), .nil], .lit (.string []), .lit (.string []), .nil], [], places) :=
  ⟨[], by kernel_rfl⟩

set_option maxRecDepth 100000 in
theorem exprRenames_lifted (os : Os) (started : os.Started) (H : Type) (enc : TypeId × Value → H) (F : Stop.Interp) :
    ReturnsInHanded {} Tryd.checked os 6 .any ((OpenSpec.ofChange Rows.exprRenamesSpec).preRow enc Tryd.prog Tryd.f6 Rows.exprRenamesRow.domain false Rows.exprRenamesRow.laid) (((OpenSpec.ofChange Rows.exprRenamesSpec).at F).post enc Tryd.prog Tryd.f6 false true false false) := by
  obtain ⟨places, hx⟩ := exprRenames_reads os enc
  refine returnsInHanded_of_row (C := Tryd.checked) (s := OpenSpec.ofChange Rows.exprRenamesSpec) own started (by kernel_rfl) Tryd.func6
    (witness_row_at (enc := enc) (C := Tryd.checked) false (laidWorld os) #[.agg #[.int .u8 0, .string ⟨#[]⟩, .slice none 0 0], .string ⟨#[]⟩, .string ⟨#[]⟩, .slice none 0 0] rfl (by kernel_rfl) (by kernel_rfl) (by kernel_rfl)
      (OpenSpec.preRow_of_cond 8 hx (by kernel_rfl) (fun k hk => by cases hk) (by kernel_rfl) (exprRenames_laid os _))) ?_
  intro W base args ds gs before hval hW _ hcd hwt hL _ _
  exact exprRenames_contract H enc W base args ds gs before _ hval hW hwt (tabB_of hL)

theorem exprRenames_said : Rows.ExprRenamesSaid :=
  OpenClaim.holds_of_cond 6 Tryd.f6 rfl rfl rfl rfl rfl rfl rfl ⟨rfl, rfl, rfl, rfl, rfl⟩ rfl rfl rfl rfl rfl (by kernel_rfl) Tryd.func6 (by kernel_rfl)
    (of_decide_eq_true (by kernel_rfl)) (by unfold Func.isWrapper; first | (rw [if_pos (by decide +kernel)]; kernel_rfl) | (rw [if_neg (by decide +kernel)]; exact ⟨rfl, rfl⟩))
    (fun os started H enc _ F => by rw [OpenClaim.pre_eq_preRow]; exact exprRenames_lifted os started H enc F)

theorem exprRenames_plain (f : FuncId) (fn : Func) (hf : Tryd.pinned.checked.prog.funcNamed "diptych/diptychlaw6.ExprRenames" = some f) (hfn : Tryd.pinned.checked.prog.funcs[f]? = some fn) :
    false = Tryd.pinned.checked.prog.looks [] ∧ ∀ (j : Nat) t, fn.params[j]? = some t → Tryd.pinned.checked.prog.wantsStandIn t = false := by
  obtain rfl : f = 6 := Option.some.inj ((show Tryd.prog.funcNamed "diptych/diptychlaw6.ExprRenames" = some 6 by kernel_rfl).symm.trans hf) |>.symm
  obtain rfl : fn = Tryd.f6 := (Option.some.inj (Tryd.func6.symm.trans hfn)).symm
  refine ⟨by kernel_rfl, fun j t ht => ?_⟩
  rw [Tryd.params6] at ht
  have h0 := Array.mem_of_getElem? ht
  simp only [List.mem_toArray, List.mem_cons, List.not_mem_nil, or_false] at h0
  have h : t = 24 ∨ t = 25 ∨ t = 9 := by
    rcases h0 with h0 | h0 | h0 | h0
    · exact (.inl h0)
    · exact (.inr (.inr h0))
    · exact (.inr (.inr h0))
    · exact (.inr (.inl h0))
  rcases h with rfl | rfl | rfl
  · exact (show Tryd.prog.wantsStandIn 24 = false by kernel_rfl)
  · exact (show Tryd.prog.wantsStandIn 25 = false by kernel_rfl)
  · exact (show Tryd.prog.wantsStandIn 9 = false by kernel_rfl)

theorem exprRenames_card : Rows.ExprRenamesCardSaid :=
  Claim7.holds_tied_plain_at .later [] _ _ _ _ exprRenames_said (fun _ h => by cases h) (by kernel_rfl) (fun _ h => by cases h) exprRenames_row_tie rfl ⟨rfl, rfl⟩ (by kernel_rfl) rfl exprRenames_plain (by kernel_rfl)
end Go.Proofs.YtldmimekmjmkgaaDoor
