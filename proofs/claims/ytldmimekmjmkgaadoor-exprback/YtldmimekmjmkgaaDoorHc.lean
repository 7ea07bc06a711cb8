/-
  ExprBack walked: whatever expression and text are handed in, it answers true.
-/
import Derived.Test.YtldmimekmjmkgaaDoorGj
import Derived.Test.YtldmimekmjmkgaaDoorGq
import Derived.Test.YtldmimekmjmkgaaDoorHb
namespace Go.Proofs.YtldmimekmjmkgaaDoor
open Go.RowKit Go.Sort Go.Maps Go.WideMaps

/-- What was told, in a new box. -/
theorem Pack.told {w W W' : World} {es : List Slot} {ss : List (Value × List ByteArray)} (h : Pack w W es ss) (hb : Below W.heap.size W W') {e : Ex} {A : Option Addr} {n c : Nat} (hk : Exs W' (From W.heap.size W'.heap.size) (.slice A n c) e.kids) :
    Pack w (W'.alloc (.cells #[.int .u8 (e.op : Int), .string e.name, .slice A n c] 24)) (⟨W'.heap.size, e, A, n, c⟩ :: es) ss :=
  ((h.next hb).alloc _).add (Lies.new (belowNext h.below hb) hk fun _ hb => hb.2)
theorem parse_written {e : Ex} (h : rightE okN e = true) : parseE (writeE e) = (e, 0) := by
  have hr := read_write h
  unfold parseE
  unfold WL at hr
  rw [hr, if_pos ⟨h, rfl⟩]
theorem written_size {e : Ex} (h : rightE okN e = true) : (writeE e).size ≤ 50000000 := by
  simp only [rightE, Bool.and_eq_true, decide_eq_true_iff] at h
  have := write_len e h.1
  omega
theorem right_size {e : Ex} (h : rightE okN e = true) : sizeE e ≤ 1000 := by
  simp only [rightE, Bool.and_eq_true, decide_eq_true_iff] at h
  omega
theorem print_pack {w W : World} {es : List Slot} {ss : List (Value × List ByteArray)} (h : Pack w W es ss) {x : Slot} (hx : x ∈ es) (hf : x.e.fits) :
    Calls Tryd.prog 14 #[.agg #[.int .u8 (x.e.op : Int), .string x.e.name, .slice x.A x.k x.c]] W fun e' w' => e' = .returned (.tuple #[.string (printE x.e).1, .int .i64 (printE x.e).2]) ∧ Below W.heap.size W w' :=
  print_any x.e x.A x.k x.c W hf (h.ex x hx).kids
section
variable {w : World} {ops : Array Oper} {o : Oper} {a : Act} {K : Act → World → Prop} {Q : Exit → Act → World → Prop} {E : Prop}
theorem step_same {v y : Value} (hw : Region.wanted o (yielded ops a.tmps) = true) (p q : Operand) (ho : o.op = .call { callee := .value (.func 21), args := #[p, q], argTypes := #[24, 30] })
    (hp : a.eval p = v) (hq : a.eval q = y) (hC : Calls Tryd.prog 21 #[v, y] w fun e' w' => e' = .returned (.bool true) ∧ Below w.heap.size w w')
    (h : ∀ w', Below w.heap.size w w' → K (a.put o.dst (.bool true)) w') : if Region.wanted o (yielded ops a.tmps) = true then Oper.wp Tryd.prog o a w K Q else E := by
  rw [if_pos hw]
  have hrun : (execOp a.eval o).run Tryd.prog w = .ok (.enter 21 #[v, y]) w := by
    have hf : a.eval (.func 21) = .func (.func 21) #[] #[] := rfl
    obtain ⟨c, hc⟩ : ∃ c, Tryd.f21.body = some c := Option.isSome_iff_exists.1 (by kernel_rfl)
    have hne : ¬ Tryd.f21.name = "runtime.NumGoroutine" := of_decide_eq_false (by kernel_rfl)
    simp [execOp, ho, resolve, invoke, hp, hq, hf, Deferred.ofValue, callFunc, hne, hc]
  unfold Oper.wp
  rw [hrun, Oper.upon_enter]
  refine hC.mono fun e w'' hh => ?_
  obtain ⟨rfl, h1⟩ := hh
  exact h w'' h1
end

set_option maxRecDepth 100000 in
set_option maxHeartbeats 8000000 in
theorem exprBack_walk (e : Ex) (A : Option Addr) (k c : Nat) (s : ByteArray) (w : World) (he : e.fits) (hl : Exs w (Under w.heap.size) (.slice A k c) e.kids) (hT : TabB w) (hs : s.size ≤ maxLen) :
    Calls Tryd.prog 5 #[.agg #[.int .u8 e.op, .string e.name, .slice A k c], .string s] w fun x w' => x = .returned (.bool true) ∧ Below w.heap.size w w' := by
  have HP0 : Hid (Pack w w [] []) := Lib.hid ⟨Below.refl _ _, hT, fun _ h => (nomatch h), fun _ h => (nomatch h)⟩
  have HP1 : Hid (Pack w (w.alloc (.cells #[.int .u8 e.op, .string e.name, .slice A k c] 24)) [⟨w.heap.size, e, A, k, c⟩] []) := Lib.hid ((HP0.out.alloc _).add (Lies.new (Below.refl _ _) hl fun _ h => h))
  have HF := Lib.hid he
  clear hl hT he HP0
  unfold maxLen at hs
  go_enter Tryd.func5, Tryd.ntmps5
  go_wp2_with fail
  refine (shown6_any _ HP1.out.tab).mono ?_
  rintro x W1 ⟨rfl, hb1⟩
  have HP2 := Lib.hid (HP1.out.next hb1)
  clear hb1 HP1
  obtain ⟨d00, d01, d02⟩ := HP2.out.cells (.head _)
  go_wp2_with fail
  refine (light6_any e A k c 300 W1 HF.out (HP2.out.ex _ (.head _)).kids (by decide) (by decide)).mono ?_
  rintro x W2 ⟨⟨q, rfl, hq0, hq1⟩, hb2⟩
  have HP3 := Lib.hid (HP2.out.next hb2)
  clear d00 d01 d02 hb2 HP2
  obtain ⟨d00, d01, d02⟩ := HP3.out.cells (.head _)
  have l0 := cell_lt d00
  by_cases hq : q < 0
  · go_wp2
    go_ret
    exact ⟨rfl, HP3.out.below⟩
  by_cases hlen : 900 < s.size
  · go_wp2
    go_ret
    exact ⟨rfl, HP3.out.below⟩
  have hs5 : s.size ≤ 50000000 := by omega
  have HS5 := Lib.hid hs5
  have HFS := Lib.hid (fit_read (l := s.data.toList) (by rw [list_size]; exact hs5))
  clear hs5
  go_wp2_with fail
  refine (print_pack HP3.out (.head _) HF.out).mono ?_
  rintro x W3 ⟨rfl, hb3⟩
  have HP4 := Lib.hid (HP3.out.next hb3)
  clear d00 d01 d02 l0 hb3 HP3
  obtain ⟨d00, d01, d02⟩ := HP4.out.cells (.head _)
  have l0 := cell_lt d00
  simp only
  generalize hre : rightE okN e = re at *
  cases re with
  | false =>
    have HRE := Lib.hid hre
    have hpe : printE e = (⟨#[]⟩, 2) := by unfold printE; rw [hre]; rfl
    rw [hpe]
    clear hre hpe
    go_wp2_with fail
    refine (right_pack HP4.out (.head _) HF.out).mono ?_
    rintro x W4 ⟨rfl, hb4⟩
    have HP5 := Lib.hid (HP4.out.next hb4)
    clear d00 d01 d02 l0 hb4 HP4
    obtain ⟨d00, d01, d02⟩ := HP5.out.cells (.head _)
    have l0 := cell_lt d00
    simp only
    rw [HRE.out]
    go_wp2_with fail
    refine (parse_any s _ HS5.out).mono ?_
    rintro x W7 ⟨A7, n7, c7, rfl, hk7, hb7⟩
    have HB7 := Lib.hid hb7
    have HK7 := Lib.hid hk7
    clear hk7 hb7
    by_cases hps : rightE okN (readE s.data.toList) = true ∧ writeE (readE s.data.toList) = s
    · have hpe : parseE s = (readE s.data.toList, 0) := by unfold parseE; rw [if_pos hps]
      rw [hpe] at HK7 ⊢
      generalize readE s.data.toList = y at *
      simp only at HK7 ⊢
      have HP9 := Lib.hid (HP5.out.told HB7.out HK7.out)
      have HPY : Hid (printE y = (s, 0)) := Lib.hid (by unfold printE; rw [if_pos hps.1, hps.2])
      have HZ7 : Hid ((W7.alloc (.cells #[.int .u8 (y.op : Int), .string y.name, .slice A7 n7 c7] 24)).heap.size = W7.heap.size + 1) := Lib.hid (by simp)
      clear hps hpe HP5 d00 d01 d02 l0
      go_upto_region 12 with fail
      generalize W7.alloc (.cells #[.int .u8 (y.op : Int), .string y.name, .slice A7 n7 c7] 24) = W8 at *
      obtain ⟨e0, e1, e2⟩ := HP9.out.cells (.head _)
      have m0 := cell_lt e0
      go_wp2_with fail
      refine (print_pack HP9.out (.head _) HFS.out).mono ?_
      rintro x W9 ⟨rfl, hb9⟩
      have HPA := Lib.hid (HP9.out.next hb9)
      clear e0 e1 e2 m0 hb9 HP9
      simp only
      rw [HPY.out]
      have hss : (s.toList == s.toList) = true := by simp
      go_wp2
      go_ret
      exact ⟨ret_bool (by simp), HPA.out.below⟩
    · have hpe : parseE s = (nulE, 2) := by unfold parseE; rw [if_neg hps]
      rw [hpe] at HK7 ⊢
      simp only at HK7 ⊢
      obtain rfl : n7 = 0 := HK7.out.len
      have HP9 := Lib.hid (HP5.out.told HB7.out HK7.out)
      clear hps hpe HP5 d00 d01 d02 l0
      go_upto_region 12 with fail
      generalize W7.alloc (.cells #[.int .u8 (nulE.op : Int), .string nulE.name, .slice A7 0 c7] 24) = W8 at *
      obtain ⟨e0, e1, e2⟩ := HP9.out.cells (.head _)
      have m0 := cell_lt e0
      have e0' : W8.cell? ⟨W7.heap.size, 0, none⟩ = some (.int .u8 0) := e0
      clear e0
      go_wp2
      go_ret
      exact ⟨rfl, HP9.out.below⟩
  | true =>
    have HRE := Lib.hid hre
    have hpe : printE e = (writeE e, 0) := by unfold printE; rw [hre]; rfl
    rw [hpe]
    clear hpe
    have HPW := Lib.hid (parse_written hre)
    have HSW := Lib.hid (written_size hre)
    have HSZ := Lib.hid (right_size hre)
    clear hre
    generalize writeE e = t at *
    go_wp2_with fail
    refine (right_pack HP4.out (.head _) HF.out).mono ?_
    rintro x W4 ⟨rfl, hb4⟩
    have HP5 := Lib.hid (HP4.out.next hb4)
    clear d00 d01 d02 l0 hb4 HP4
    obtain ⟨d00, d01, d02⟩ := HP5.out.cells (.head _)
    have l0 := cell_lt d00
    simp only
    rw [HRE.out]
    go_wp2_with fail
    refine (parse_any t W4 HSW.out).mono ?_
    rw [HPW.out]
    rintro x W5 ⟨A5, n5, c5, rfl, hk5, hb5⟩
    simp only at hk5 ⊢
    have HP6 := Lib.hid (HP5.out.told hb5 hk5)
    clear hk5 hb5 d00 d01 d02 l0 HP5
    go_upto_region 9 with fail
    generalize W5.alloc (.cells #[.int .u8 (e.op : Int), .string e.name, .slice A5 n5 c5] 24) = W6 at *
    obtain ⟨d00, d01, d02⟩ := HP6.out.cells (.tail _ (.head _))
    have l0 := cell_lt d00
    obtain ⟨d10, d11, d12⟩ := HP6.out.cells (.head _)
    have l1 := cell_lt d10
    have HPD := Lib.hid (HP6.out.next (below_drewX W6))
    have HCA : Hid (Calls Tryd.prog 13 #[.agg #[.int .u8 (e.op : Int), .string e.name, .slice A k c]] W6.drew (EPost W6.drew e)) := Lib.hid (as_walk e A k c W6.drew.heap.size W6.drew HSZ.out (HPD.out.ex _ (.tail _ (.head _))).kids (Nat.le_refl _))
    go_wp2_with fail
    go_region_law (first
      | ((with_reducible refine step_as (v := .agg #[.int .u8 (e.op : Int), .string e.name, .slice A k c]) (x := e) (by kernel_rfl) (.tmp 49) rfl rfl HCA.out ?_); intro A6 n6 c6 w7 hk7 hb7; have HP7 := Lib.hid (HPD.out.next hb7); obtain ⟨f0, f1, f2⟩ := HP7.out.cells (.head _); have m0 := cell_lt f0; have HCS : Hid (Calls Tryd.prog 21 #[.agg #[.int .u8 (e.op : Int), .string e.name, .slice A5 n5 c5], .agg #[.int .u8 (e.op : Int), .string e.name, .slice A6 n6 c6]] w7 fun x w' => x = .returned (.bool true) ∧ Below w7.heap.size w7 w') := Lib.hid (same_walk e A5 A6 n5 c5 n6 c6 w7.heap.size w7 (HP7.out.ex _ (.head _)).kids (hk7.keep (fun b hb => hb.2) fun _ _ => rfl) (Nat.le_refl _)); clear hk7 hb7)
      | ((with_reducible refine step_same (v := .agg #[.int .u8 (e.op : Int), .string e.name, .slice A5 n5 c5]) (y := .agg #[.int .u8 (e.op : Int), .string e.name, .slice A6 n6 c6]) (by kernel_rfl) (.tmp 48) (.tmp 50) rfl rfl rfl HCS.out ?_); intro w8 hb8; have HP8 := Lib.hid (HP7.out.next hb8); clear hb8))
    all_goals
      clear d00 d01 d02 l0 d10 d11 d12 l1 HP6
      obtain ⟨d00, d01, d02⟩ := HP8.out.cells (.head _)
      have l0 := cell_lt d00
      go_wp2_with fail
      refine (parse_any s _ HS5.out).mono ?_
      rintro x W7 ⟨A7, n7, c7, rfl, hk7, hb7⟩
      have HB7 := Lib.hid hb7
      have HK7 := Lib.hid hk7
      clear hk7 hb7
      by_cases hps : rightE okN (readE s.data.toList) = true ∧ writeE (readE s.data.toList) = s
      · have hpe : parseE s = (readE s.data.toList, 0) := by unfold parseE; rw [if_pos hps]
        rw [hpe] at HK7 ⊢
        generalize readE s.data.toList = y at *
        simp only at HK7 ⊢
        have HP9 := Lib.hid (HP8.out.told HB7.out HK7.out)
        have HPY : Hid (printE y = (s, 0)) := Lib.hid (by unfold printE; rw [if_pos hps.1, hps.2])
        have HZ7 : Hid ((W7.alloc (.cells #[.int .u8 (y.op : Int), .string y.name, .slice A7 n7 c7] 24)).heap.size = W7.heap.size + 1) := Lib.hid (by simp)
        clear hps hpe HP8 d00 d01 d02 l0
        go_upto_region 12 with fail
        generalize W7.alloc (.cells #[.int .u8 (y.op : Int), .string y.name, .slice A7 n7 c7] 24) = W8 at *
        obtain ⟨e0, e1, e2⟩ := HP9.out.cells (.head _)
        have m0 := cell_lt e0
        go_wp2_with fail
        refine (print_pack HP9.out (.head _) HFS.out).mono ?_
        rintro x W9 ⟨rfl, hb9⟩
        have HPA := Lib.hid (HP9.out.next hb9)
        clear e0 e1 e2 m0 hb9 HP9
        simp only
        rw [HPY.out]
        have hss : (s.toList == s.toList) = true := by simp
        go_wp2
        go_ret
        exact ⟨ret_bool (by simp), HPA.out.below⟩
      · have hpe : parseE s = (nulE, 2) := by unfold parseE; rw [if_neg hps]
        rw [hpe] at HK7 ⊢
        simp only at HK7 ⊢
        obtain rfl : n7 = 0 := HK7.out.len
        have HP9 := Lib.hid (HP8.out.told HB7.out HK7.out)
        clear hps hpe HP8 d00 d01 d02 l0
        go_upto_region 12 with fail
        generalize W7.alloc (.cells #[.int .u8 (nulE.op : Int), .string nulE.name, .slice A7 0 c7] 24) = W8 at *
        obtain ⟨e0, e1, e2⟩ := HP9.out.cells (.head _)
        have m0 := cell_lt e0
        have e0' : W8.cell? ⟨W7.heap.size, 0, none⟩ = some (.int .u8 0) := e0
        clear e0
        go_wp2
        go_ret
        exact ⟨rfl, HP9.out.below⟩
end Go.Proofs.YtldmimekmjmkgaaDoor
