/-
  PlaceWith walked.
-/
import Derived.Test.YtpkkncfnjgbemaaPlS
import Derived.Test.YtpkkncfnjgbemaaPlU
import Derived.Test.YtpkkncfnjgbemaaPlW
import Derived.Test.YtpkkncfnjgbemaaW28
import Derived.Test.YtpkkncfnjgbemaaSameP
namespace Go.Proofs.Ytpkkncfnjgbemaa
open Go.RowKit Go.Sort Go.Maps

theorem boxed (w : World) (ob : Obj) : Below w.heap.size w (w.alloc ob) ∧ (w.alloc ob).heap[w.heap.size]? = some ob ∧ w.heap.size < (w.alloc ob).heap.size := ⟨(Below.refl _ _).alloc (Nat.le_refl _) _, heap_new _ _, by simp⟩

section
variable {w : World} {ops : Array Oper} {o : Oper} {a : Act} {K : Act → World → Prop} {Q : Exit → Act → World → Prop} {E : Prop}
/-- pick, in a region that draws its order. -/
theorem step_pick4 {c n : Int} (hgd : o.guard = none) (p q : Operand) (ho : o.op = .call { callee := .value (.func 22), args := #[p, q], argTypes := #[3, 3] })
    (hp : a.eval p = .int .i64 c) (hq : a.eval q = .int .i64 n) (hn : 0 < n) (hn2 : n ≤ 1000000) (hc : -9223372036854775808 ≤ c) (hc2 : c ≤ 9223372036854775807) (h : K (a.put o.dst (.int .i64 (pickN c n))) w) :
    if Region.wanted o (yielded ops a.tmps) = true then Oper.wp Try.prog o a w K Q else E := by
  have hwn : Region.wanted o (yielded ops a.tmps) = true := by simp [Region.wanted, hgd]
  rw [if_pos hwn]
  have hrun : (execOp a.eval o).run Try.prog w = .ok (.enter 22 #[.int .i64 c, .int .i64 n]) w := by
    have hf : a.eval (.func 22) = .func (.func 22) #[] #[] := rfl
    obtain ⟨c, hc⟩ : ∃ c, Try.f22.body = some c := Option.isSome_iff_exists.1 (by kernel_rfl)
    have hne : ¬ Try.f22.name = "runtime.NumGoroutine" := of_decide_eq_false (by kernel_rfl)
    simp [execOp, ho, resolve, invoke, hp, hq, hf, Deferred.ofValue, callFunc, hne, hc]
  unfold Oper.wp
  rw [hrun, Oper.upon_enter]
  refine (pick_any c n w hn hn2 hc hc2).mono fun e w'' hh => ?_
  obtain ⟨rfl, rfl⟩ := hh
  exact h
/-- Resolve, where there is a spot, in a region that draws its order. -/
theorem step_spot {v : Value} {t : Tree} {k : Int} {p0 : List Int} {j0 o0 : Nat} (hgd : o.guard = none) (p q : Operand) (ho : o.op = .call { callee := .value (.func 9), args := #[p, q], argTypes := #[31, 3] })
    (hp : a.eval p = v) (hq : a.eval q = .int .i64 k) (hn : Node w (Under w.heap.size) v t) (hw : weigh t ≤ 1000000) (h1 : -9223372036854775808 ≤ k) (h2 : k ≤ 9223372036854775807) (hr : resolveB t k = some (p0, j0, o0))
    (h : ∀ A c w', Ints w' (From w.heap.size w'.heap.size) (.slice A p0.length c) p0 → Below w.heap.size w w' → K (a.put o.dst (.tuple #[.agg #[.slice A p0.length c, .int .i64 (j0 : Int), .int .i64 (o0 : Int)], .int .i64 0])) w') :
    if Region.wanted o (yielded ops a.tmps) = true then Oper.wp Try.prog o a w K Q else E := by
  have hwn : Region.wanted o (yielded ops a.tmps) = true := by simp [Region.wanted, hgd]
  rw [if_pos hwn]
  have hrun : (execOp a.eval o).run Try.prog w = .ok (.enter 9 #[v, .int .i64 k]) w := by
    have hf : a.eval (.func 9) = .func (.func 9) #[] #[] := rfl
    obtain ⟨c, hc⟩ : ∃ c, Try.f9.body = some c := Option.isSome_iff_exists.1 (by kernel_rfl)
    have hne : ¬ Try.f9.name = "runtime.NumGoroutine" := of_decide_eq_false (by kernel_rfl)
    simp [execOp, ho, resolve, invoke, hp, hq, hf, Deferred.ofValue, callFunc, hne, hc]
  unfold Oper.wp
  rw [hrun, Oper.upon_enter]
  refine (resolve_any v t k w hn hw h1 h2).mono fun e w'' hh => ?_
  obtain ⟨hb, hh⟩ := hh
  rw [hr] at hh
  rcases hh with ⟨hh, _⟩ | ⟨p', j', o', A, c, hh, rfl, hi⟩
  · cases hh
  simp only [Option.some.injEq, Prod.mk.injEq] at hh
  obtain ⟨rfl, rfl, rfl⟩ := hh
  exact h A c w'' hi hb
end

abbrev ZSpot : Obj := .cells #[.slice none 0 0, .int .i64 0, .int .i64 0] 25

set_option maxHeartbeats 20000000 in
set_option maxRecDepth 100000 in
theorem placeWith_walk (v v' : Value) (l l' : List Cel) (pos : Int) (w : World) (h : Cels w (Under w.heap.size) v l) (h' : Cels w (Under w.heap.size) v' l') (hp1 : -9223372036854775808 ≤ pos) (hp2 : pos ≤ 9223372036854775807) :
    Calls Try.prog 5 #[v, v', .int .i64 pos] w fun e w' => e = .returned (.bool true) ∧ Below w.heap.size w w' := by
  have HC := Lib.hid h
  have HC' := Lib.hid h'
  clear h h'
  go_enter Try.func5, Try.ntmps5
  go_wp2_with fail
  refine (shown4_any _).mono ?_
  rintro e w1 ⟨rfl, hb1⟩
  have HB1 := Lib.hid hb1
  clear hb1
  go_wp2_with fail
  refine (doc_any _ l w1 ((HC.out.below HB1.out).more HB1.out.size)).mono ?_
  rintro e w2 ⟨A, c, rfl, hk2, hb2⟩
  have HB2 := Lib.hid (belowNext HB1.out hb2)
  have hmw := madeB_weigh l
  have hdw := docB_weigh l
  have htw := total_le_weigh (madeB l)
  have hdw' := docB_weigh l'
  have HK2 := Lib.hid (hk2.keep (S' := Under w2.heap.size) (fun _ h => h.2) (fun _ _ => rfl))
  obtain ⟨ha3, hd3, hl3⟩ := boxed w2 (.cells (docCells A (madeB l).length c) 31)
  have HA3 := Lib.hid ha3
  have HD3 := Lib.hid hd3
  have HL3 := Lib.hid hl3
  clear hk2 hb2 ha3 hd3 hl3
  go_upto_region 5 with fail
  generalize w2.alloc (.cells (docCells A (madeB l).length c) 31) = w3 at *
  have HB3 := Lib.hid (belowNext HB2.out HA3.out)
  go_wp2_with fail
  refine (doc_any _ l' w3 ((HC'.out.below HB3.out).more HB3.out.size)).mono ?_
  rintro e w4 ⟨A', c', rfl, hk4, hb4⟩
  have HK4 := Lib.hid (hk4.keep (S' := Under w4.heap.size) (fun _ h => h.2) (fun _ _ => rfl))
  obtain ⟨ha5, hd5, hl5⟩ := boxed w4 (.cells (docCells A' (madeB l').length c') 31)
  have HA5 := Lib.hid ha5
  have HD5 := Lib.hid hd5
  have HL5 := Lib.hid hl5
  have HB4 := Lib.hid (belowNext HA3.out hb4)
  have HL4 : Hid (w2.heap.size < w4.heap.size) := Lib.hid (Nat.lt_of_lt_of_le HL3.out hb4.size)
  have HD4 := Lib.hid ((hb4.block w2.heap.size HL3.out).trans HD3.out)
  clear hk4 hb4 ha5 hd5 hl5
  go_upto_region 6 with fail
  generalize w4.alloc (.cells (docCells A' (madeB l').length c') 31) = w5 at *
  have HB5 := Lib.hid (belowNext HB4.out HA5.out)
  have HLN : Hid (w2.heap.size < w5.heap.size) := Lib.hid (Nat.lt_of_lt_of_le HL4.out HA5.out.size)
  have HDN : Hid (∀ W, Below w5.heap.size w5 W → W.heap[w2.heap.size]? = some (.cells (docCells A (madeB l).length c) 31)) := Lib.hid fun W hW => (hW.block w2.heap.size HLN.out).trans ((HA5.out.block w2.heap.size HL4.out).trans HD4.out)
  have HDM : Hid (∀ W, Below w5.heap.size w5 W → W.heap[w4.heap.size]? = some (.cells (docCells A' (madeB l').length c') 31)) := Lib.hid fun W hW => (hW.block w4.heap.size HL5.out).trans HD5.out
  have HKN : Hid (∀ W, Below w5.heap.size w5 W → Kids W (Under W.heap.size) (.slice A (madeB l).length c) (madeB l)) := Lib.hid fun W hW => (HK2.out.below (belowNext HB5.out hW)).more (belowNext HB5.out hW).size
  have HNN : Hid (∀ W, Below w5.heap.size w5 W → Node W (Under W.heap.size) (.agg (docCells A (madeB l).length c)) (docB l)) := Lib.hid fun W hW => doc_node (HKN.out W hW)
  have HNM : Hid (∀ W, Below w5.heap.size w5 W → Node W (Under W.heap.size) (.agg (docCells A' (madeB l').length c')) (docB l')) := Lib.hid fun W hW => doc_node ((HK4.out.below (belowNext HA5.out hW)).more (belowNext HA5.out hW).size)
  have HTT : Hid (∀ W, Below w5.heap.size w5 W → Calls Try.prog 23 #[.slice A (madeB l).length c] W fun e w' => e = .returned (.int .i64 (totalB (madeB l))) ∧ Below W.heap.size W w') := Lib.hid fun W hW => total_any _ (madeB l) W (HKN.out W hW) (by omega)
  have hpl := pickN_lo pos ((totalB (madeB l) : Int) + 1) (by omega)
  have hph := pickN_hi pos ((totalB (madeB l) : Int) + 1) (by omega)
  obtain ⟨k, hk⟩ : ∃ k : Nat, pickN pos ((totalB (madeB l) : Int) + 1) = (k : Int) := ⟨(pickN pos ((totalB (madeB l) : Int) + 1)).toNat, by omega⟩
  obtain ⟨p, j, o, u, hres, hok⟩ := doc_spot l (k := k) (by omega)
  have HOK := Lib.hid hok
  have HRES : Hid (resolveB (docB l) (pickN pos ((totalB (madeB l) : Int) + 1)) = some (p, j, o)) := Lib.hid (by rw [hk]; exact hres)
  have HPR := Lib.hid (path_range p (docB l) u hok.go (by omega))
  have hwu : weigh u ≤ 1000000 := Nat.le_trans (goB_weigh p (docB l) u hok.go) (by omega)
  have HEN := Lib.hid (belowNext HB2.out HB5.out)
  have HP3 : Hid (-9223372036854775808 ≤ pickN pos ((totalB (madeB l) : Int) + 1) ∧ pickN pos ((totalB (madeB l) : Int) + 1) ≤ 9223372036854775807) := Lib.hid ⟨by omega, by omega⟩
  have hwr : IntKind.i64.wrap ((totalB (madeB l) : Int) + 1) = (totalB (madeB l) : Int) + 1 := IntWalk.i64_in _ (by omega)
  have hT9 : (totalB (madeB l) : Int) + 1 ≤ 9223372036854775807 := by omega
  have hT8 : Hid ((0 : Int) < (totalB (madeB l) : Int) + 1 ∧ (totalB (madeB l) : Int) + 1 ≤ 1000000) := Lib.hid ⟨by omega, by omega⟩
  have hwl : weigh (docB l) ≤ 1000000 := by omega
  clear hres hok hpl hph hk
  generalize totalB (madeB l) = T at *
  go_cut [10, 11] (fun s10 s11 wx => ∃ G Ap cp, s10 = .pointer (some ⟨G, 0, none⟩) ∧ s11 = .int .i64 0 ∧ Below w5.heap.size w5 wx ∧ Hid (wx.heap[G]? = some (.cells #[.slice Ap p.length cp, .int .i64 (j : Int), .int .i64 (o : Int)] 25)) ∧ Hid (Ints wx (Under wx.heap.size) (.slice Ap p.length cp) p))
  case first =>
    have B0 : Hid (Below w5.heap.size w5 w5.drew) := Lib.hid (Below.refl _ _).drew
    have B1 : Hid (Below w5.heap.size w5 (w5.alloc ZSpot).drew) := Lib.hid (((Below.refl _ _).alloc (Nat.le_refl _) _).drew)
    have S1 : Hid (((w5.alloc ZSpot).drew).heap[w5.heap.size]? = some ZSpot) := Lib.hid (show (w5.alloc ZSpot).heap[w5.heap.size]? = _ from heap_new _ _)
    have K1 : Hid (w5.heap.size < ((w5.alloc ZSpot).drew).heap.size) := Lib.hid (show w5.heap.size < (w5.alloc ZSpot).heap.size by simp)
    obtain ⟨x0, x1, x2, x3, x4⟩ := cells5 (HDN.out w5 (Below.refl _ _))
    obtain ⟨y0, y1, y2, y3, y4⟩ := cells5 (HDN.out _ B1.out)
    go_region_law (first
      | ((with_reducible refine step_total (v := .slice A (madeB l).length c) (n := (T : Int)) (w := w5.drew) rfl (.tmp 31) rfl rfl (HTT.out _ B0.out) ?_); intro w6 hb6; have B6 := Lib.hid (belowNext B0.out hb6); obtain ⟨a0, a1, a2, a3, a4⟩ := cells5 (HDN.out _ B6.out); have B7 : Hid (Below w5.heap.size w5 (w6.alloc ZSpot)) := Lib.hid (B6.out.alloc B6.out.size _); obtain ⟨b0, b1, b2, b3, b4⟩ := cells5 (HDN.out _ B7.out); have S7 : Hid ((w6.alloc ZSpot).heap[w6.heap.size]? = some ZSpot) := Lib.hid (heap_new _ _); have K7 : Hid (w6.heap.size < (w6.alloc ZSpot).heap.size) := Lib.hid (by simp); clear hb6)
      | ((with_reducible refine step_total (v := .slice A (madeB l).length c) (n := (T : Int)) (w := (w5.alloc ZSpot).drew) rfl (.tmp 31) rfl rfl (HTT.out _ B1.out) ?_); intro w6 hb6; have B6 := Lib.hid (belowNext B1.out hb6); obtain ⟨a0, a1, a2, a3, a4⟩ := cells5 (HDN.out _ B6.out); have S6 := Lib.hid ((hb6.block _ K1.out).trans S1.out); have K6 : Hid (w5.heap.size < w6.heap.size) := Lib.hid (Nat.lt_of_lt_of_le K1.out hb6.size); clear hb6)
      | (with_reducible refine step_pick4 (c := pos) (n := (T : Int) + 1) (w := w6) rfl (.tmp 29) (.tmp 33) rfl rfl rfl hT8.out.1 hT8.out.2 hp1 hp2 ?_)
      | (with_reducible refine step_pick4 (c := pos) (n := (T : Int) + 1) (w := w6.alloc ZSpot) rfl (.tmp 29) (.tmp 33) rfl rfl rfl hT8.out.1 hT8.out.2 hp1 hp2 ?_)
      | ((with_reducible refine step_spot (v := .agg (docCells A (madeB l).length c)) (t := docB l) (k := pickN pos ((T : Int) + 1)) (w := w6) rfl (.tmp 28) (.tmp 34) rfl rfl rfl (HNN.out _ B6.out) hwl HP3.out.1 HP3.out.2 HRES.out ?_); intro Ap cp w7 hi7 hb7; have B8 := Lib.hid (belowNext B6.out hb7); have S8 := Lib.hid ((hb7.block _ K6.out).trans S6.out); have I8 := Lib.hid hi7; have Z8 : Hid (w5.heap.size < w6.heap.size) := K6; obtain ⟨c0, c1, c2⟩ := cells3 S8.out; have f0 := frozen_of_row _ _ 0 _ _ S8.out; have f1 := frozen_of_row _ _ 1 _ _ S8.out; have f2 := frozen_of_row _ _ 2 _ _ S8.out; clear hb7 hi7)
      | ((with_reducible refine step_spot (v := .agg (docCells A (madeB l).length c)) (t := docB l) (k := pickN pos ((T : Int) + 1)) (w := w6) rfl (.tmp 28) (.tmp 34) rfl rfl rfl (HNN.out _ B6.out) hwl HP3.out.1 HP3.out.2 HRES.out ?_); intro Ap cp w7 hi7 hb7; have B8 := Lib.hid (belowNext B6.out hb7); have I8 := Lib.hid hi7; clear hb7 hi7)
      | ((with_reducible refine step_spot (v := .agg (docCells A (madeB l).length c)) (t := docB l) (k := pickN pos ((T : Int) + 1)) (w := w6.alloc ZSpot) rfl (.tmp 28) (.tmp 34) rfl rfl rfl (HNN.out _ B7.out) hwl HP3.out.1 HP3.out.2 HRES.out ?_); intro Ap cp w7 hi7 hb7; have B8 := Lib.hid (belowNext B7.out hb7); have S8 := Lib.hid ((hb7.block _ K7.out).trans S7.out); have I8 := Lib.hid hi7; have Z9 : Hid (w6.heap.size < (w6.alloc ZSpot).heap.size ∧ w5.heap.size ≤ w6.heap.size) := Lib.hid ⟨K7.out, B6.out.size⟩; obtain ⟨c0, c1, c2⟩ := cells3 S8.out; have f0 := frozen_of_row _ _ 0 _ _ S8.out; have f1 := frozen_of_row _ _ 1 _ _ S8.out; have f2 := frozen_of_row _ _ 2 _ _ S8.out; clear hb7 hi7))
    all_goals
      go_wp2_with fail
      go_meet
      first
        | exact ⟨w5.heap.size, Ap, cp, rfl, rfl, put3z_below (Nat.le_refl _) B8.out, Lib.hid (put3z_block S8.out), Lib.hid (I8.out.keep (fun b hb => by have h1 := put3z_size (w := w7) (g := w5.heap.size) (v0 := .slice Ap p.length cp) (v1 := .int .i64 (j : Int)) (v2 := .int .i64 (o : Int)); unfold put3z at h1; unfold Under; rw [h1]; exact hb.2) (fun b hb => put3z_other (g := w5.heap.size) (by have := hb.1; have := Z8.out; omega)))⟩
        | exact ⟨w6.heap.size, Ap, cp, rfl, rfl, put3z_below Z9.out.2 B8.out, Lib.hid (put3z_block S8.out), Lib.hid (I8.out.keep (fun b hb => by have h1 := put3z_size (w := w7) (g := w6.heap.size) (v0 := .slice Ap p.length cp) (v1 := .int .i64 (j : Int)) (v2 := .int .i64 (o : Int)); unfold put3z at h1; unfold Under; rw [h1]; exact hb.2) (fun b hb => put3z_other (g := w6.heap.size) (by have := hb.1; have := Z9.out.1; omega)))⟩
        | exact ⟨w7.heap.size, Ap, cp, rfl, rfl, B8.out.alloc B8.out.size _, Lib.hid (heap_new _ _), Lib.hid (I8.out.keep (fun b hb => by unfold Under; simp; have := hb.2; omega) (fun b hb => ((Below.refl w7.heap.size w7).alloc (Nat.le_refl _) _).block b hb.2))⟩
  case rest =>
    obtain ⟨G, Ap, cp, rfl, rfl, hbc, hgc, hic⟩ := hcut
    have HBC := Lib.hid hbc
    clear hbc
    have HLG : Hid (G < wc.heap.size) := Lib.hid (Array.getElem?_eq_some_iff.1 hgc.out).1
    have HSG : Hid (∀ W, Below wc.heap.size wc W → W.heap[G]? = some (.cells #[.slice Ap p.length cp, .int .i64 (j : Int), .int .i64 (o : Int)] 25)) := Lib.hid fun W hW => (hW.block G HLG.out).trans hgc.out
    have HIP : Hid (∀ W, Below wc.heap.size wc W → Ints W (Under W.heap.size) (.slice Ap p.length cp) p) := Lib.hid fun W hW => hic.out.keep (fun b hb => Nat.lt_of_lt_of_le hb hW.size) (fun b hb => hW.block b hb)
    obtain ⟨x0, x1, x2, x3, x4⟩ := cells5 (HDN.out wc HBC.out)
    obtain ⟨s0, s1, s2⟩ := cells3 hgc.out
    -- was
    go_wp2_with fail
    refine (inner_any _ _ (docB l) p wc (HNN.out wc HBC.out) (HIP.out wc (Below.refl _ _)) HPR.out hwl).mono ?_
    rintro e w7 ⟨B1, m1, d1, B2, m2, d2, B3, d3, u', nn, rfl, hnu, hfo, hb7⟩
    rw [HOK.out.follow] at hfo
    obtain ⟨rfl, rfl⟩ : u = u' ∧ nn = 0 := by
      rcases hfo with ⟨hfo, h0⟩ | ⟨hfo, _⟩
      · exact ⟨Option.some.inj hfo, h0⟩
      · cases hfo
    obtain ⟨ha8, hn8, hl8⟩ := boxed w7 (.cells #[.string u.kind, .string u.text, .slice B1 m1 d1, .slice B2 m2 d2, .slice B3 u.kids.length d3] 31)
    have HB8 := Lib.hid (belowNext hb7 ha8)
    have HN8 := Lib.hid hn8
    have HL8 := Lib.hid hl8
    have HU8 := Lib.hid ((hnu.keep (S' := Under w7.heap.size) (fun b hb => hb.2) (fun _ _ => rfl)).below ha8 |>.more ha8.size)
    clear hfo hb7 ha8 hn8 hl8 hnu x0 x1 x2 x3 x4 s0 s1 s2
    go_upto_region 8 with fail
    generalize w7.alloc (.cells #[.string u.kind, .string u.text, .slice B1 m1 d1, .slice B2 m2 d2, .slice B3 u.kids.length d3] 31) = w8 at *
    have HC8 := Lib.hid (belowNext HBC.out HB8.out)
    -- x
    obtain ⟨x0, x1, x2, x3, x4⟩ := cells5 (HDN.out w8 HC8.out)
    obtain ⟨y0, y1, y2, y3, y4⟩ := cells5 (HDM.out w8 HC8.out)
    obtain ⟨s0, s1, s2⟩ := cells3 (HSG.out w8 HB8.out)
    go_wp2_with fail
    refine (with_any _ _ _ (docB l) (docB l') p w8 (HNN.out w8 HC8.out) (HNM.out w8 HC8.out) (HIP.out w8 HB8.out) HPR.out hwl (by omega)).mono ?_
    rintro e w9 ⟨C1, i1, e1, C2, i2, e2, C3, e3, r, nn, rfl, hnr, hfo, hb9⟩
    rw [HOK.out.follow] at hfo
    obtain ⟨hr, rfl⟩ : r = withB (docB l) p (docB l') ∧ nn = 0 := by
      rcases hfo with ⟨_, h0, h1⟩ | ⟨hfo, _⟩
      · exact ⟨h1, h0⟩
      · cases hfo
    obtain ⟨ha10, hn10, hl10⟩ := boxed w9 (.cells #[.string r.kind, .string r.text, .slice C1 i1 e1, .slice C2 i2 e2, .slice C3 r.kids.length e3] 31)
    have HB10 := Lib.hid (belowNext hb9 ha10)
    have HN10 := Lib.hid hn10
    have HL10 := Lib.hid hl10
    have HR10 := Lib.hid ((hnr.keep (S' := Under w9.heap.size) (fun b hb => hb.2) (fun _ _ => rfl)).below ha10 |>.more ha10.size)
    have HRR : Hid (goB r p = some (docB l') ∧ withB r p u = docB l ∧ sizeB r + sizeB u = sizeB (docB l) + sizeB (docB l')) := Lib.hid (by rw [hr]; exact ⟨goB_with p _ u _ HOK.out.go, with_with p _ u _ HOK.out.go, size_with p _ u _ HOK.out.go⟩)
    have hwr2 : weigh r ≤ 1000000 := by have := weigh_with p _ u (docB l') HOK.out.go; rw [← hr] at this; omega
    have HFR : Hid (followB r p = some (docB l')) := Lib.hid (followB_of HRR.out.1 (docB_plain l'))
    clear hfo hb9 ha10 hn10 hl10 hnr x0 x1 x2 x3 x4 y0 y1 y2 y3 y4 s0 s1 s2 hr
    go_upto_region 9 with fail
    generalize w9.alloc (.cells #[.string r.kind, .string r.text, .slice C1 i1 e1, .slice C2 i2 e2, .slice C3 r.kids.length e3] 31) = w10 at *
    have HC10 := Lib.hid (belowNext HB8.out HB10.out)
    -- now
    obtain ⟨x0, x1, x2, x3, x4⟩ := cells5 HN10.out
    obtain ⟨s0, s1, s2⟩ := cells3 (HSG.out w10 HC10.out)
    go_wp2_with fail
    refine (inner_any _ _ r p w10 HR10.out (HIP.out w10 HC10.out) HPR.out hwr2).mono ?_
    rintro e w11 ⟨D1, n1, f1, D2, n2, f2, D3, f3, q, nn, rfl, hnq, hfo, hb11⟩
    rw [HFR.out] at hfo
    obtain ⟨hq, rfl⟩ : q = docB l' ∧ nn = 0 := by
      rcases hfo with ⟨hfo, h0⟩ | ⟨hfo, _⟩
      · exact ⟨(Option.some.inj hfo).symm, h0⟩
      · cases hfo
    obtain ⟨ha12, hn12, hl12⟩ := boxed w11 (.cells #[.string q.kind, .string q.text, .slice D1 n1 f1, .slice D2 n2 f2, .slice D3 q.kids.length f3] 31)
    have HB12 := Lib.hid (belowNext hb11 ha12)
    have HN12 := Lib.hid hn12
    have HL12 := Lib.hid hl12
    have HQ12 := Lib.hid ((hnq.keep (S' := Under w11.heap.size) (fun b hb => hb.2) (fun _ _ => rfl)).below ha12 |>.more ha12.size)
    have HQE := Lib.hid hq
    have hwq : weigh q ≤ 1000000 := by rw [hq]; omega
    clear hfo hb11 ha12 hn12 hl12 hnq x0 x1 x2 x3 x4 s0 s1 s2 hq
    go_upto_region 10 with fail
    generalize w11.alloc (.cells #[.string q.kind, .string q.text, .slice D1 n1 f1, .slice D2 n2 f2, .slice D3 q.kids.length f3] 31) = w12 at *
    have HC12 := Lib.hid (belowNext HC10.out HB12.out)
    have HD12 := Lib.hid (belowNext HB10.out HB12.out)
    -- y
    obtain ⟨x0, x1, x2, x3, x4⟩ := cells5 ((HB12.out.block _ HL10.out).trans HN10.out)
    obtain ⟨y0, y1, y2, y3, y4⟩ := cells5 ((HD12.out.block _ HL8.out).trans HN8.out)
    obtain ⟨s0, s1, s2⟩ := cells3 (HSG.out w12 HC12.out)
    go_wp2_with fail
    refine (with_any _ _ _ r u p w12 ((HR10.out.below HB12.out).more HB12.out.size) ((HU8.out.below HD12.out).more HD12.out.size) (HIP.out w12 HC12.out) HPR.out hwr2 hwu).mono ?_
    rintro e w13 ⟨F1, j1, g1, F2, j2, g2, F3, g3, y, nn, rfl, hny, hfo, hb13⟩
    rw [HFR.out] at hfo
    obtain ⟨hy, rfl⟩ : y = docB l ∧ nn = 0 := by
      rcases hfo with ⟨_, h0, h1⟩ | ⟨hfo, _⟩
      · exact ⟨h1.trans HRR.out.2.1, h0⟩
      · cases hfo
    obtain ⟨ha14, hn14, hl14⟩ := boxed w13 (.cells #[.string y.kind, .string y.text, .slice F1 j1 g1, .slice F2 j2 g2, .slice F3 y.kids.length g3] 31)
    have HB14 := Lib.hid (belowNext hb13 ha14)
    have HN14 := Lib.hid hn14
    have HY14 := Lib.hid ((hny.keep (S' := Under w13.heap.size) (fun b hb => hb.2) (fun _ _ => rfl)).below ha14 |>.more ha14.size)
    have HYE := Lib.hid hy
    have hwy : weigh y ≤ 1000000 := by rw [hy]; omega
    clear hfo hb13 ha14 hn14 hl14 hny x0 x1 x2 x3 x4 y0 y1 y2 y3 y4 s0 s1 s2 hy
    go_upto_region 11 with fail
    generalize w13.alloc (.cells #[.string y.kind, .string y.text, .slice F1 j1 g1, .slice F2 j2 g2, .slice F3 y.kids.length g3] 31) = w14 at *
    have HE14 := Lib.hid (belowNext HD12.out HB14.out)
    have HF14 := Lib.hid (belowNext HB12.out HB14.out)
    have HG14 := Lib.hid (belowNext HBC.out (belowNext HC12.out HB14.out))
    have HNQ := Lib.hid ((HQ12.out.below HB14.out).more HB14.out.size)
    have HNU := Lib.hid ((HU8.out.below HE14.out).more HE14.out.size)
    have HNR := Lib.hid ((HR10.out.below HF14.out).more HF14.out.size)
    have HS1 := Lib.hid (regrown_any (w := w14) (f := 24) (args := #[.agg #[.string q.kind, .string q.text, .slice D1 n1 f1, .slice D2 n2 f2, .slice D3 q.kids.length f3], .agg (docCells A' (madeB l').length c')]) (v := .bool true) fun W hW =>
      walk_res (nsame_any _ _ q (docB l') W ((HNQ.out.below hW).more hW.size) (HNM.out W (belowNext HG14.out hW)) hwq (by omega)) (by rw [HQE.out]; exact sameB_self _))
    have HS2 := Lib.hid (regrown_any (w := w14) (f := 24) (args := #[.agg #[.string y.kind, .string y.text, .slice F1 j1 g1, .slice F2 j2 g2, .slice F3 y.kids.length g3], .agg (docCells A (madeB l).length c)]) (v := .bool true) fun W hW =>
      walk_res (nsame_any _ _ y (docB l) W ((HY14.out.below hW).more hW.size) (HNN.out W (belowNext HG14.out hW)) hwy hwl) (by rw [HYE.out]; exact sameB_self _))
    have HZ1 := Lib.hid (regrown_any (w := w14) (f := 25) (args := #[.agg #[.string r.kind, .string r.text, .slice C1 i1 e1, .slice C2 i2 e2, .slice C3 r.kids.length e3]]) (v := .int .i64 (sizeB r)) fun W hW => size_any _ r W ((HNR.out.below hW).more hW.size) hwr2)
    have HZ2 := Lib.hid (regrown_any (w := w14) (f := 25) (args := #[.agg (docCells A (madeB l).length c)]) (v := .int .i64 (sizeB (docB l))) fun W hW => size_any _ (docB l) W (HNN.out W (belowNext HG14.out hW)) hwl)
    have HZ3 := Lib.hid (regrown_any (w := w14) (f := 25) (args := #[.agg #[.string u.kind, .string u.text, .slice B1 m1 d1, .slice B2 m2 d2, .slice B3 u.kids.length d3]]) (v := .int .i64 (sizeB u)) fun W hW => size_any _ u W ((HNU.out.below hW).more hW.size) hwu)
    have HZ4 := Lib.hid (regrown_any (w := w14) (f := 25) (args := #[.agg (docCells A' (madeB l').length c')]) (v := .int .i64 (sizeB (docB l'))) fun W hW => size_any _ (docB l') W (HNM.out W (belowNext HG14.out hW)) (by omega))
    obtain ⟨x0, x1, x2, x3, x4⟩ := cells5 (HDN.out w14 HG14.out)
    obtain ⟨y0, y1, y2, y3, y4⟩ := cells5 (HDM.out w14 HG14.out)
    obtain ⟨q0, q1, q2, q3, q4⟩ := cells5 ((HB14.out.block _ HL12.out).trans HN12.out)
    obtain ⟨t0, t1, t2, t3, t4⟩ := cells5 ((HF14.out.block _ HL10.out).trans HN10.out)
    obtain ⟨b0, b1, b2, b3, b4⟩ := cells5 ((HE14.out.block _ HL8.out).trans HN8.out)
    obtain ⟨z0, z1, z2, z3, z4⟩ := cells5 HN14.out
    have hsr := size_le_weigh r
    have hsu := size_le_weigh u
    have hsl := size_le_weigh (docB l)
    have hsk := size_le_weigh (docB l')
    have hss := HRR.out.2.2
    generalize sizeB r = sr at *
    generalize sizeB u = su at *
    generalize sizeB (docB l) = sl at *
    generalize sizeB (docB l') = sk at *
    have hb1 : sr ≤ 1000000 := by omega
    have hb2 : su ≤ 1000000 := by omega
    have hb3 : sl ≤ 1000000 := by omega
    have hb4 : sk ≤ 1000000 := by omega
    have hfin : ((sr : Int) == (sl : Int) - (su : Int) + (sk : Int)) = true := by rw [beq_iff_eq]; omega
    have x0 := cell_regrown x0
    have x1 := cell_regrown x1
    have x2 := cell_regrown x2
    have x3 := cell_regrown x3
    have x4 := cell_regrown x4
    have y0 := cell_regrown y0
    have y1 := cell_regrown y1
    have y2 := cell_regrown y2
    have y3 := cell_regrown y3
    have y4 := cell_regrown y4
    have q0 := cell_regrown q0
    have q1 := cell_regrown q1
    have q2 := cell_regrown q2
    have q3 := cell_regrown q3
    have q4 := cell_regrown q4
    have t0 := cell_regrown t0
    have t1 := cell_regrown t1
    have t2 := cell_regrown t2
    have t3 := cell_regrown t3
    have t4 := cell_regrown t4
    have b0 := cell_regrown b0
    have b1 := cell_regrown b1
    have b2 := cell_regrown b2
    have b3 := cell_regrown b3
    have b4 := cell_regrown b4
    have z0 := cell_regrown z0
    have z1 := cell_regrown z1
    have z2 := cell_regrown z2
    have z3 := cell_regrown z3
    have z4 := cell_regrown z4
    clear hmw hdw htw hdw' hwl hwu hwr2 hwq hwy
    refine wp_region_quiet_below (by kernel_rfl) (by kernel_rfl) ?_
    repeat (first | go_big_quiet_step (first | exact HS1.out _ _ | exact HS2.out _ _ | exact HZ1.out _ _ | exact HZ2.out _ _ | exact HZ3.out _ _ | exact HZ4.out _ _) | quiet_step (first | exact HS1.out _ _ | exact HS2.out _ _ | exact HZ1.out _ _ | exact HZ2.out _ _ | exact HZ3.out _ _ | exact HZ4.out _ _))
    refine wpQuiet_nil ?_
    intro _ hw'
    obtain ⟨⟨dq, osq⟩, hw''⟩ := hw'
    subst hw''
    have HBQ := Lib.hid (belowNext (belowNext HEN.out HG14.out) (below_regrown w14 dq osq))
    generalize grow (redrawn w14 dq) osq = wq at *
    go_wp2
    go_ret
    refine ⟨?_, HBQ.out⟩
    first
      | rfl
      | (rw [IntWalk.wrap64_in ((sl : Int) - (su : Int)) (by omega), IntWalk.wrap64_in _ (by omega), hfin])
      | simp [hfin]
end Go.Proofs.Ytpkkncfnjgbemaa
