/-
  PlacePaths walked.
-/
import Derived.Test.YtpcipihhaanpjaaPlS
import Derived.Test.YtpcipihhaanpjaaW28
import Derived.Test.YtpcipihhaanpjaaSameP
namespace Go.Proofs.Ytpcipihhaanpjaa
open Go.RowKit Go.Sort Go.Maps

section
variable {w : World} {ops : Array Oper} {o : Oper} {a : Act} {K : Act → World → Prop} {Q : Exit → Act → World → Prop} {E : Prop}
/-- Inner, in a region that draws its order. -/
theorem step_inner {v vp : Value} {t u : Tree} {pp : List Int} (hgd : o.guard = none) (p q : Operand) (ho : o.op = .call { callee := .value (.func 17), args := #[p, q], argTypes := #[31, 23] })
    (hp : a.eval p = v) (hq : a.eval q = vp) (hc : Calls Try.prog 17 #[v, vp] w (InnPost w t pp)) (hfo : followB t pp = some u)
    (h : ∀ A1 n1 c1 A2 n2 c2 A3 c3 w', Node w' (From w.heap.size w'.heap.size) (.agg #[.string u.kind, .string u.text, .slice A1 n1 c1, .slice A2 n2 c2, .slice A3 u.kids.length c3]) u → Below w.heap.size w w' → K (a.put o.dst (.tuple #[.agg #[.string u.kind, .string u.text, .slice A1 n1 c1, .slice A2 n2 c2, .slice A3 u.kids.length c3], .int .i64 0])) w') :
    if Region.wanted o (yielded ops a.tmps) = true then Oper.wp Try.prog o a w K Q else E := by
  have hwn : Region.wanted o (yielded ops a.tmps) = true := by simp [Region.wanted, hgd]
  rw [if_pos hwn]
  have hrun : (execOp a.eval o).run Try.prog w = .ok (.enter 17 #[v, vp]) w := by
    have hf : a.eval (.func 17) = .func (.func 17) #[] #[] := rfl
    obtain ⟨c, hc⟩ : ∃ c, Try.f17.body = some c := Option.isSome_iff_exists.1 (by kernel_rfl)
    have hne : ¬ Try.f17.name = "runtime.NumGoroutine" := of_decide_eq_false (by kernel_rfl)
    simp [execOp, ho, resolve, invoke, hp, hq, hf, Deferred.ofValue, callFunc, hne, hc]
  unfold Oper.wp
  rw [hrun, Oper.upon_enter]
  refine hc.mono fun e w'' hh => ?_
  obtain ⟨A1, n1, c1, A2, n2, c2, A3, c3, u', nn, rfl, hn, hf, hb⟩ := hh
  rw [hfo] at hf
  obtain ⟨rfl, rfl⟩ : u = u' ∧ nn = 0 := by
    rcases hf with ⟨hf, h0⟩ | ⟨hf, _⟩
    · exact ⟨Option.some.inj hf, h0⟩
    · cases hf
  exact h A1 n1 c1 A2 n2 c2 A3 c3 w'' hn hb
end
/-- A path's last step. -/
theorem path_last {t u : Tree} {q : List Int} {x : Int} (h : goB t (q ++ [x]) = some u) (hu : isTxt u.kind = false) :
    ∃ y, ∃ n : Nat, x = (n : Int) ∧ followB t q = some y ∧ y.kids[n]? = some u ∧ startB t (q ++ [x]) = startB t q + totalB (y.kids.take n) + 1 ∧ posB t q x 0 = some ((startB t q + totalB (y.kids.take n) : Nat) : Int) := by
  rw [goB_app] at h
  cases hq : goB t q with
  | none => rw [hq] at h; cases h
  | some y =>
    rw [hq] at h
    simp only [Option.bind_some, goB] at h
    cases hk : kidAt y x with
    | none => rw [hk] at h; cases h
    | some z =>
      rw [hk] at h
      simp only [Option.some.injEq] at h
      subst h
      obtain ⟨hy, h0, hz⟩ := kidAt_some hk
      obtain ⟨n, rfl⟩ : ∃ n : Nat, x = (n : Int) := ⟨x.toNat, by omega⟩
      rw [Int.toNat_natCast] at hz
      have hl := (List.getElem?_eq_some_iff.1 hz).1
      have hth : thereB y.kids (n : Int) 0 = true := by rw [there_in (by omega), hz]; simp [thereAt, hu]
      refine ⟨y, n, rfl, followB_of hq hy, hz, ?_, ?_⟩
      · rw [startB_app q t y [(n : Int)] hq]
        simp only [startB, Int.toNat_natCast, hz]; omega
      · rw [posB_some (followB_of hq hy) hth, Int.toNat_natCast]
        congr 1
theorem Ints.upto {w : World} {S : Nat → Prop} {A : Option Addr} {n c : Nat} {p q r : List Int} (h : Ints w S (.slice A n c) p) (hp : p = q ++ r) : Ints w S (.slice A q.length c) q := by
  subst hp
  obtain ⟨A', c', hv, h1, h2, h3⟩ := h
  injection hv with hA hn hc
  subst hA; subst hc
  rw [List.length_append] at h1
  refine ⟨A, c, rfl, by omega, h2, ?_⟩
  rcases h3 with h3 | ⟨b, o, rfl, hb, h3⟩
  · exact .inl (List.append_eq_nil_iff.1 h3).1
  · refine .inr ⟨b, o, rfl, hb, fun i s hi => h3 i s ?_⟩
    rw [List.getElem?_append_left (List.getElem?_eq_some_iff.1 hi).1]; exact hi

set_option maxHeartbeats 20000000 in
set_option maxRecDepth 100000 in
theorem placePaths_walk (v : Value) (l : List Cel) (w : World) (h : Cels w (Under w.heap.size) v l) :
    Calls Try.prog 8 #[v] w fun e w' => e = .returned (.bool true) ∧ Below w.heap.size w w' := by
  have HC := Lib.hid h
  clear h
  go_enter Try.func8, Try.ntmps8
  go_wp2_with fail
  refine (shown4_any _).mono ?_
  rintro e w1 ⟨rfl, hb1⟩
  have HB1 := Lib.hid hb1
  clear hb1
  go_wp2_with fail
  refine (doc_any _ l w1 ((HC.out.below HB1.out).more HB1.out.size)).mono ?_
  rintro e w2 ⟨A, c, rfl, hk2, hb2⟩
  have HB2 := Lib.hid (belowNext HB1.out hb2)
  have hlen := length_le_weigh (madeB l)
  have hmw := madeB_weigh l
  have hdw := docB_weigh l
  have htw := total_le_weigh (madeB l)
  have HK2 := Lib.hid (hk2.keep (S' := Under w2.heap.size) (fun _ h => h.2) (fun _ _ => rfl))
  have HND : Hid (∀ W, Below w2.heap.size w2 W → Node W (Under W.heap.size) (.agg (docCells A (madeB l).length c)) (docB l)) := Lib.hid fun W hW => doc_node ((HK2.out.below hW).more hW.size)
  have HKD : Hid (∀ W, Below w2.heap.size w2 W → Kids W (Under W.heap.size) (.slice A (madeB l).length c) (madeB l)) := Lib.hid fun W hW => (HK2.out.below hW).more hW.size
  clear hk2 hb2
  have HTT : Hid (∀ W, Below w2.heap.size w2 W → Calls Try.prog 24 #[.slice A (madeB l).length c] W fun e w' => e = .returned (.int .i64 (totalB (madeB l))) ∧ Below W.heap.size W w') := Lib.hid fun W hW => total_any _ (madeB l) W (HKD.out W hW) (by omega)
  have HSP := Lib.hid (fun k hk => doc_spot l (k := k) hk)
  generalize totalB (madeB l) = T at *
  go_wp2
  go_loopw [5] (fun i wr => ∃ k : Nat, k ≤ T + 1 ∧ i = .int .i64 k ∧ Below w2.heap.size w2 wr ∧ w2.heap.size + 1 ≤ wr.heap.size ∧ Hid (wr.heap[w2.heap.size]? = some (.cells (docCells A (madeB l).length c) 31))) (fun i _ => T + 1 - (intOf i).toNat)
  case atStart => exact ⟨0, by omega, rfl, (Below.refl _ _).alloc (Nat.le_refl _) _, by simp, Lib.hid (heap_new _ _)⟩
  case round =>
    obtain ⟨k, hk, rfl, hb, hz, hdc⟩ := hrel
    obtain ⟨x0, x1, x2, x3, x4⟩ := cells5 hdc.out
    have HB := Lib.hid hb
    go_wp2_with fail
    refine (HTT.out wr hb).mono ?_
    rintro e w3 ⟨rfl, hb3⟩
    have hz3 := hb3.size
    have HD3 := Lib.hid ((hb3.block w2.heap.size (by omega)).trans hdc.out)
    have HB3 := Lib.hid (belowNext HB.out hb3)
    clear x0 x1 x2 x3 x4 hb hb3 hdc
    obtain ⟨x0, x1, x2, x3, x4⟩ := cells5 HD3.out
    by_cases hkT : k ≤ T
    · obtain ⟨p, j, o, u, hres, hok⟩ := HSP.out k hkT
      have HOK := Lib.hid hok
      have HPR := Lib.hid (path_range p (docB l) u hok.go (by omega))
      have HWU : Hid (weigh u ≤ 1000000) := Lib.hid (Nat.le_trans (goB_weigh p (docB l) u hok.go) (by omega))
      have hj : j ≤ 1000000 := by have := hok.le; have := length_le_weigh u.kids; have := kids_weigh u; have := HWU.out; simp only at *; omega
      have ho : o ≤ 1000000 := by have := hok.pos; simp only at this; omega
      go_wp2_with fail
      refine (resolve_any _ (docB l) (k : Int) w3 (HND.out w3 HB3.out) (by omega) (by omega) (by omega)).mono ?_
      rintro e w4 ⟨hb4, hr4⟩
      rw [hres] at hr4
      rcases hr4 with ⟨hr4, _⟩ | ⟨p', j', o', A4, c4, hr4, rfl, hi4⟩
      · cases hr4
      simp only [Option.some.injEq, Prod.mk.injEq] at hr4
      obtain ⟨rfl, rfl, rfl⟩ := hr4
      have hz4 := hb4.size
      have HB4 := Lib.hid (belowNext HB3.out hb4)
      have HD4 := Lib.hid ((hb4.block w2.heap.size (by omega)).trans HD3.out)
      clear hok hres
      rcases List.eq_nil_or_concat p with hp | ⟨q, x, hp⟩
      · subst hp
        have ha5 : Below w4.heap.size w4 (w4.alloc (.cells #[.slice A4 0 c4, .int .i64 (j : Int), .int .i64 (o : Int)] 25)) := (Below.refl _ _).alloc (Nat.le_refl _) _
        have HB5 := Lib.hid (belowNext HB4.out ha5)
        have HD5 := Lib.hid ((ha5.block w2.heap.size (by omega)).trans HD4.out)
        have hz5 : w2.heap.size + 1 ≤ (w4.alloc (.cells #[.slice A4 0 c4, .int .i64 (j : Int), .int .i64 (o : Int)] 25)).heap.size := by simp; omega
        have HZ5 := Lib.hid hz5
        simp only [List.length_nil] at *
        clear hb4 hi4 ha5 x0 x1 x2 x3 x4 hz5
        go_wp2
        exact ⟨⟨k + 1, by omega, by go_num, HB5.out, HZ5.out, HD5⟩, by simp [intOf]; omega⟩
      · rw [List.concat_eq_append] at hp
        have hpl : p.length = q.length + 1 := by rw [hp]; simp
        have HP := Lib.hid hp
        rw [hpl] at hi4 ⊢
        clear hpl hp
        obtain ⟨y, n, hxn, hfy, hyk, hst, hps⟩ := path_last (by rw [← HP.out]; exact HOK.out.go) HOK.out.plain
        subst hxn
        rw [← HP.out] at hst
        have HFY := Lib.hid hfy
        have HYK := Lib.hid hyk
        have HPS := Lib.hid hps
        have hpx : p[q.length]? = some (n : Int) := by rw [HP.out]; simp
        obtain ⟨bp, op, rfl, hbp, hcx⟩ := hi4.get hpx
        have hl4 := hi4.len
        have ha5 : Below w4.heap.size w4 (w4.alloc (.cells #[.slice (some ⟨bp, op, none⟩) (q.length + 1) c4, .int .i64 (j : Int), .int .i64 (o : Int)] 25)) := (Below.refl _ _).alloc (Nat.le_refl _) _
        have hs5 : (w4.alloc (.cells #[.slice (some ⟨bp, op, none⟩) (q.length + 1) c4, .int .i64 (j : Int), .int .i64 (o : Int)] 25)).heap[w4.heap.size]? = some (.cells #[.slice (some ⟨bp, op, none⟩) (q.length + 1) c4, .int .i64 (j : Int), .int .i64 (o : Int)] 25) := heap_new _ _
        have hz5 : (w4.alloc (.cells #[.slice (some ⟨bp, op, none⟩) (q.length + 1) c4, .int .i64 (j : Int), .int .i64 (o : Int)] 25)).heap.size = w4.heap.size + 1 := by simp
        have hd5 := (ha5.block w2.heap.size (by omega)).trans HD4.out
        have HB5 := Lib.hid (belowNext HB4.out ha5)
        have HI5 : Hid (Ints (w4.alloc (.cells #[.slice (some ⟨bp, op, none⟩) (q.length + 1) c4, .int .i64 (j : Int), .int .i64 (o : Int)] 25)) (From w3.heap.size (w4.alloc (.cells #[.slice (some ⟨bp, op, none⟩) (q.length + 1) c4, .int .i64 (j : Int), .int .i64 (o : Int)] 25)).heap.size) (.slice (some ⟨bp, op, none⟩) (q.length + 1) c4) p) := Lib.hid (hi4.keep (fun b hb => ⟨hb.1, Nat.lt_of_lt_of_le hb.2 ha5.size⟩) (fun b hb => ha5.block b hb.2))
        have HPX := Lib.hid hpx
        have HS5 := Lib.hid hs5
        have HD5 := Lib.hid hd5
        have hq1 : q.length + 1 ≤ c4 := by rw [← hl4.1] at hl4; omega
        have hcm : c4 ≤ maxLen := hl4.2.2
        unfold maxLen at hcm
        obtain ⟨aa, haa⟩ : ∃ aa, aa = startB (docB l) q + totalB (y.kids.take n) := ⟨_, rfl⟩
        rw [← haa] at hst hps
        have HPS := Lib.hid hps
        have HST := Lib.hid hst
        have haw : aa ≤ 800 := by have := startB_weigh p (docB l); omega
        have hnn : n ≤ 1000000 := by
          have h1 := (List.getElem?_eq_some_iff.1 hyk).1
          have h2 := length_le_weigh y.kids
          have h3 := kids_weigh y
          have h4 := goB_weigh q (docB l) y (followB_some hfy).1
          omega
        have HWY : Hid (weigh y ≤ 1000000) := Lib.hid (Nat.le_trans (goB_weigh q (docB l) y (followB_some hfy).1) (by omega))
        have j1 : (0 : Int) ≤ (q.length : Int) := by omega
        have j2 : (q.length : Int) ≤ (c4 : Int) := by omega
        have j4 : q.length ≤ c4 := by omega
        have j6 : ¬ c4 = 0 := by omega
        have j9 : q.length < q.length + 1 := by omega
        have j8 : (((q.length : Int) + 1) == 0) = false := by rw [beq_eq_false_iff_ne]; omega
        obtain ⟨n0, n1, n2, n3, n4⟩ := cells5 hd5
        obtain ⟨s0, s1, s2⟩ := cells3 hs5
        clear hb4 hi4 ha5 hs5 hd5 x0 x1 x2 x3 x4 hcx hst hps hfy hyk hl4 hpx haa hbp
        go_wp2_with fail
        generalize w4.alloc (.cells #[.slice (some ⟨bp, op, none⟩) (q.length + 1) c4, .int .i64 (j : Int), .int .i64 (o : Int)] 25) = w5 at *
        refine (startP_any _ _ (docB l) p w5 (HND.out w5 HB5.out) (HI5.out.keep (fun b hb => hb.2) (fun _ _ => rfl)) HPR.out (by omega)).mono ?_
        rintro e w6 ⟨he, hb6⟩
        rw [HOK.out.follow, HST.out] at he
        simp only [Option.map_some, posE] at he
        subst he
        have hz6 := hb6.size
        have HB6 := Lib.hid (belowNext HB5.out hb6)
        have HS6 := Lib.hid ((hb6.block w4.heap.size (by omega)).trans HS5.out)
        have HD6 := Lib.hid ((hb6.block w2.heap.size (by omega)).trans HD5.out)
        have HI6 := Lib.hid (HI5.out.keep (S' := From w3.heap.size w6.heap.size) (fun b hb => ⟨hb.1, Nat.lt_of_lt_of_le hb.2 hb6.size⟩) (fun b hb => hb6.block b hb.2))
        have HPQ : Hid (∀ W, Below w6.heap.size w6 W → Ints W (Under W.heap.size) (.slice (some ⟨bp, op, none⟩) q.length c4) q) := Lib.hid fun W hW => (HI6.out.upto HP.out).keep (fun b hb => Nat.lt_of_lt_of_le hb.2 hW.size) (fun b hb => hW.block b hb.2)
        have HQR : Hid (∀ x ∈ q, -9223372036854775808 ≤ x ∧ x ≤ 9223372036854775807) := Lib.hid fun x hx => HPR.out x (by rw [HP.out]; exact List.mem_append_left _ hx)
        clear hb6 n0 n1 n2 n3 n4 s0 s1 s2 HS5 HD5 HI5
        have HPO := Lib.hid (regrown_any (w := w6) (f := 13) (args := #[.agg (docCells A (madeB l).length c), .agg #[.slice (some ⟨bp, op, none⟩) q.length c4, .int .i64 (n : Int), .int .i64 0]]) (v := .tuple #[.int .i64 (aa : Int), .int .i64 0]) fun W hW => by
          have := pos_any _ _ (docB l) q (n : Int) 0 W (HND.out W (HB6.out.trans (hW.mono HB6.out.size))) (HPQ.out W hW) HQR.out (by omega) (by omega) (by omega) (by omega) (by omega)
          rw [HPS.out] at this
          exact this)
        obtain ⟨n0, n1, n2, n3, n4⟩ := cells5 HD6.out
        obtain ⟨s0, s1, s2⟩ := cells3 HS6.out
        obtain ⟨bq, oq, heq, _, cx⟩ := HI6.out.get HPX.out
        injection heq with heq
        injection heq with e1 e2
        subst e1; subst e2
        have g0 := cell_regrown n0
        have g1 := cell_regrown n1
        have g2 := cell_regrown n2
        have g3 := cell_regrown n3
        have g4 := cell_regrown n4
        have t0 := cell_regrown s0
        have t1 := cell_regrown cx
        clear n0 n1 n2 n3 n4 s0 s1 s2 cx
        go_wp2_with fail
        refine wp_region_quiet_below (by kernel_rfl) (by kernel_rfl) ?_
        repeat (first | go_big_quiet_step (exact HPO.out _ _) | quiet_step (exact HPO.out _ _))
        refine wpQuiet_nil ?_
        intro _ hw'
        obtain ⟨⟨dq, osq⟩, hw''⟩ := hw'
        subst hw''
        have hb7 := below_regrown w6 dq osq
        clear g0 g1 g2 g3 g4 t0 t1
        generalize grow (redrawn w6 dq) osq = w7 at *
        have hz7 := hb7.size
        have HB7 := Lib.hid (belowNext HB6.out hb7)
        have HS7 := Lib.hid ((hb7.block w4.heap.size (by omega)).trans HS6.out)
        have HD7 := Lib.hid ((hb7.block w2.heap.size (by omega)).trans HD6.out)
        have HI7 := Lib.hid (HI6.out.keep (S' := From w3.heap.size w7.heap.size) (fun b hb => ⟨hb.1, Nat.lt_of_lt_of_le hb.2 hb7.size⟩) (fun b hb => hb7.block b hb.2))
        clear hb7 HS6 HD6 HPO HPQ
        obtain ⟨n0, n1, n2, n3, n4⟩ := cells5 HD7.out
        obtain ⟨s0, s1, s2⟩ := cells3 HS7.out
        go_wp2_with fail
        refine (inner_any _ _ (docB l) p w7 (HND.out w7 HB7.out) (HI7.out.keep (fun b hb => hb.2) (fun _ _ => rfl)) HPR.out (by omega)).mono ?_
        rintro e w8 ⟨B1, m1, d1, B2, m2, d2, B3, d3, u', nn, rfl, hnu, hfo, hb8⟩
        rw [HOK.out.follow] at hfo
        obtain ⟨rfl, rfl⟩ : u = u' ∧ nn = 0 := by
          rcases hfo with ⟨hfo, h0⟩ | ⟨hfo, _⟩
          · exact ⟨Option.some.inj hfo, h0⟩
          · cases hfo
        clear hfo
        have hz8 := hb8.size
        have HB8 := Lib.hid (belowNext HB7.out hb8)
        have ha9 : Below w8.heap.size w8 (w8.alloc (.cells #[.string u.kind, .string u.text, .slice B1 m1 d1, .slice B2 m2 d2, .slice B3 u.kids.length d3] 31)) := (Below.refl _ _).alloc (Nat.le_refl _) _
        have hn9 : (w8.alloc (.cells #[.string u.kind, .string u.text, .slice B1 m1 d1, .slice B2 m2 d2, .slice B3 u.kids.length d3] 31)).heap[w8.heap.size]? = some (.cells #[.string u.kind, .string u.text, .slice B1 m1 d1, .slice B2 m2 d2, .slice B3 u.kids.length d3] 31) := heap_new _ _
        have hz9 : (w8.alloc (.cells #[.string u.kind, .string u.text, .slice B1 m1 d1, .slice B2 m2 d2, .slice B3 u.kids.length d3] 31)).heap.size = w8.heap.size + 1 := by simp
        have hs9 := (ha9.block w4.heap.size (by omega)).trans ((hb8.block w4.heap.size (by omega)).trans HS7.out)
        have hd9 := (ha9.block w2.heap.size (by omega)).trans ((hb8.block w2.heap.size (by omega)).trans HD7.out)
        have HI9 : Hid (Ints (w8.alloc (.cells #[.string u.kind, .string u.text, .slice B1 m1 d1, .slice B2 m2 d2, .slice B3 u.kids.length d3] 31)) (From w3.heap.size (w8.alloc (.cells #[.string u.kind, .string u.text, .slice B1 m1 d1, .slice B2 m2 d2, .slice B3 u.kids.length d3] 31)).heap.size) (.slice (some ⟨bp, op, none⟩) (q.length + 1) c4) p) := Lib.hid (HI7.out.keep (fun b hb => ⟨hb.1, Nat.lt_of_lt_of_le hb.2 (Nat.le_trans hb8.size ha9.size)⟩) (fun b hb => (ha9.block b (Nat.lt_of_lt_of_le hb.2 hb8.size)).trans (hb8.block b hb.2)))
        have HNU : Hid (Node (w8.alloc (.cells #[.string u.kind, .string u.text, .slice B1 m1 d1, .slice B2 m2 d2, .slice B3 u.kids.length d3] 31)) (Under (w8.alloc (.cells #[.string u.kind, .string u.text, .slice B1 m1 d1, .slice B2 m2 d2, .slice B3 u.kids.length d3] 31)).heap.size) (.agg #[.string u.kind, .string u.text, .slice B1 m1 d1, .slice B2 m2 d2, .slice B3 u.kids.length d3]) u) := Lib.hid (hnu.keep (fun b hb => Nat.lt_of_lt_of_le hb.2 ha9.size) (fun b hb => ha9.block b hb.2))
        have HB9 := Lib.hid (belowNext HB8.out ha9)
        have HN9 := Lib.hid hn9
        have HS9 := Lib.hid hs9
        have HD9 := Lib.hid hd9
        clear n0 n1 n2 n3 n4 s0 s1 s2 hb8 hnu HS7 HD7 HI7 ha9 hn9 hs9 hd9
        have HZ9 := Lib.hid hz9
        clear hz9
        go_wp2_with fail
        generalize w8.alloc (.cells #[.string u.kind, .string u.text, .slice B1 m1 d1, .slice B2 m2 d2, .slice B3 u.kids.length d3] 31) = w9 at *
        have hz9 := HZ9.out
        have HL9 : Hid (w2.heap.size < w9.drew.heap.size) := Lib.hid (show w2.heap.size < w9.heap.size by omega)
        obtain ⟨n0, n1, n2, n3, n4⟩ := cells5 HD9.out
        obtain ⟨s0, s1, s2⟩ := cells3 HS9.out
        have HPQ : Hid (∀ W, Below w9.heap.size w9 W → Ints W (Under W.heap.size) (.slice (some ⟨bp, op, none⟩) q.length c4) q) := Lib.hid fun W hW => (HI9.out.upto HP.out).keep (fun b hb => Nat.lt_of_lt_of_le hb.2 hW.size) (fun b hb => hW.block b hb.2)
        have HIN : Hid (∀ W, Below w9.heap.size w9 W → Calls Try.prog 17 #[.agg (docCells A (madeB l).length c), .slice (some ⟨bp, op, none⟩) q.length c4] W (InnPost W (docB l) q)) := Lib.hid fun W hW => inner_any _ _ (docB l) q W (HND.out W (HB9.out.trans (hW.mono HB9.out.size))) (HPQ.out W hW) HQR.out (by omega)
        go_cut [15, 16] (fun s15 s16 wx => ∃ G F1 k1 f1 F2 k2 f2 F3 f3, s15 = .pointer (some ⟨G, 0, none⟩) ∧ s16 = .int .i64 0 ∧ Below w9.heap.size w9 wx ∧ wx.heap[G]? = some (.cells #[.string y.kind, .string y.text, .slice F1 k1 f1, .slice F2 k2 f2, .slice F3 y.kids.length f3] 31) ∧ Node wx (Under wx.heap.size) (.agg #[.string y.kind, .string y.text, .slice F1 k1 f1, .slice F2 k2 f2, .slice F3 y.kids.length f3]) y)
        case first =>
          have B0 : Hid (Below w9.heap.size w9 w9.drew) := Lib.hid (Below.refl _ _).drew
          have B1' : Hid (Below w9.heap.size w9 ((w9.alloc (.cells #[.string ⟨#[]⟩, .string ⟨#[]⟩, .slice none 0 0, .slice none 0 0, .slice none 0 0] 31)).drew)) := Lib.hid ((Below.refl _ _).alloc (Nat.le_refl _) _).drew
          have S1 : Hid (((w9.alloc (.cells #[.string ⟨#[]⟩, .string ⟨#[]⟩, .slice none 0 0, .slice none 0 0, .slice none 0 0] 31)).drew).heap[w9.heap.size]? = some (.cells #[.string ⟨#[]⟩, .string ⟨#[]⟩, .slice none 0 0, .slice none 0 0, .slice none 0 0] 31)) := Lib.hid (show (w9.alloc (.cells #[.string ⟨#[]⟩, .string ⟨#[]⟩, .slice none 0 0, .slice none 0 0, .slice none 0 0] 31)).heap[w9.heap.size]? = _ from heap_new _ _)
          have K1 : Hid (w9.heap.size < ((w9.alloc (.cells #[.string ⟨#[]⟩, .string ⟨#[]⟩, .slice none 0 0, .slice none 0 0, .slice none 0 0] 31)).drew).heap.size) := Lib.hid (show w9.heap.size < (w9.alloc (.cells #[.string ⟨#[]⟩, .string ⟨#[]⟩, .slice none 0 0, .slice none 0 0, .slice none 0 0] 31)).heap.size by simp)
          have D1 : Hid ((w9.alloc (.cells #[.string ⟨#[]⟩, .string ⟨#[]⟩, .slice none 0 0, .slice none 0 0, .slice none 0 0] 31)).heap[w2.heap.size]? = some (.cells (docCells A (madeB l).length c) 31)) := Lib.hid (heap_old _ _ _ HD9.out)
          have D2 : Hid ((w9.alloc (.cells #[.string ⟨#[]⟩, .string ⟨#[]⟩, .slice none 0 0, .slice none 0 0, .slice none 0 0] 31)).heap[w4.heap.size]? = _) := Lib.hid (heap_old _ _ _ HS9.out)
          obtain ⟨k0, k1, k2, k3, k4⟩ := cells5 D1.out
          obtain ⟨v0, v1, v2⟩ := cells3 D2.out
          clear hz9
          go_region_law (first
            | ((with_reducible refine step_inner (v := .agg (docCells A (madeB l).length c)) (vp := .slice (some ⟨bp, op, none⟩) q.length c4) (t := docB l) (pp := q) (u := y) (w := w9.drew) rfl (.tmp 75) (.tmp 79) rfl rfl rfl (HIN.out _ B0.out) HFY.out ?_); intro F1 k1 f1 F2 k2 f2 F3 f3 w10 hn10 hb10; have HX : Hid True := Lib.hid trivial; have HN10 := Lib.hid hn10; have B10 := Lib.hid (belowNext B0.out hb10); obtain ⟨z0, z1, z2, z3, z4⟩ := cells5 ((hb10.block w2.heap.size HL9.out).trans HD9.out); clear hn10 hb10)
            | ((with_reducible refine step_inner (v := .agg (docCells A (madeB l).length c)) (vp := .slice (some ⟨bp, op, none⟩) q.length c4) (t := docB l) (pp := q) (u := y) (w := (w9.alloc (.cells #[.string ⟨#[]⟩, .string ⟨#[]⟩, .slice none 0 0, .slice none 0 0, .slice none 0 0] 31)).drew) rfl (.tmp 75) (.tmp 79) rfl rfl rfl (HIN.out _ B1'.out) HFY.out ?_); intro F1 k1 f1 F2 k2 f2 F3 f3 w10 hn10 hb10; have HN10 := Lib.hid hn10; have B10 := Lib.hid (belowNext B1'.out hb10); have S10 := Lib.hid ((hb10.block _ K1.out).trans S1.out); obtain ⟨z0, z1, z2, z3, z4⟩ := cells5 S10.out; have u0 := frozen_of_row _ _ 0 _ _ S10.out; have u1 := frozen_of_row _ _ 1 _ _ S10.out; have u2' := frozen_of_row _ _ 2 _ _ S10.out; have u3 := frozen_of_row _ _ 3 _ _ S10.out; have u4 := frozen_of_row _ _ 4 _ _ S10.out; clear hn10 hb10))
          all_goals
            go_wp2_with fail
            go_meet
            first
              | exact ⟨w9.heap.size, F1, k1, f1, F2, k2, f2, F3, f3, rfl, rfl, put5z_below (Nat.le_refl _) B10.out, put5z_block S10.out, HN10.out.keep (fun b hb => by have h1 := put5z_size (w := w10) (g := w9.heap.size) (v0 := .string y.kind) (v1 := .string y.text) (v2 := .slice F1 k1 f1) (v3 := .slice F2 k2 f2) (v4 := .slice F3 y.kids.length f3); unfold put5z at h1; unfold Under; rw [h1]; exact hb.2) (fun b hb => put5z_other (g := w9.heap.size) (by have h1 := hb.1; have h2 : ((w9.alloc (.cells #[.string ⟨#[]⟩, .string ⟨#[]⟩, .slice none 0 0, .slice none 0 0, .slice none 0 0] 31)).drew).heap.size = w9.heap.size + 1 := (show (w9.alloc (.cells #[.string ⟨#[]⟩, .string ⟨#[]⟩, .slice none 0 0, .slice none 0 0, .slice none 0 0] 31)).heap.size = w9.heap.size + 1 by simp); omega))⟩
              | exact ⟨w10.heap.size, F1, k1, f1, F2, k2, f2, F3, f3, rfl, rfl, B10.out.alloc B10.out.size _, heap_new _ _, HN10.out.keep (fun b hb => by unfold Under; simp; have := hb.2; omega) (fun b hb => ((Below.refl w10.heap.size w10).alloc (Nat.le_refl _) _).block b hb.2)⟩
        case rest =>
          obtain ⟨G, F1, k1, f1, F2, k2, f2, F3, f3, rfl, rfl, hbc, hgc, hny⟩ := hcut
          have hzc := hbc.size
          have HBC := Lib.hid (belowNext HB9.out hbc)
          have HDC := Lib.hid ((hbc.block w2.heap.size (by omega)).trans HD9.out)
          obtain ⟨m0, m1', m2', m3, m4⟩ := cells5 ((hbc.block w8.heap.size (by omega)).trans HN9.out)
          obtain ⟨v0, v1, v2⟩ := cells3 ((hbc.block w4.heap.size (by omega)).trans HS9.out)
          obtain ⟨z0, z1, z2, z3, z4⟩ := cells5 hgc
          have HIC := Lib.hid (HI9.out.keep (S' := From w3.heap.size wc.heap.size) (fun b hb => ⟨hb.1, Nat.lt_of_lt_of_le hb.2 hbc.size⟩) (fun b hb => hbc.block b hb.2))
          obtain ⟨bq, oq, heq, _, cx⟩ := HIC.out.get HPX.out
          injection heq with heq
          injection heq with e1 e2
          subst e1; subst e2
          obtain ⟨b5, o5, E1, l1, e1, E2, l2, e2, E3, e3, rfl, hub, r0, r1, r2, r3, r4, hnx⟩ := hny.kidsOf.kid HYK.out
          have HNX := Lib.hid hnx
          have HNUC := Lib.hid (HNU.out.keep (S' := Under wc.heap.size) (fun b hb => Nat.lt_of_lt_of_le hb hbc.size) (fun b hb => hbc.block b hb))
          have hlk : n < y.kids.length := (List.getElem?_eq_some_iff.1 HYK.out).1
          have i1 : (n : Int) < (y.kids.length : Int) := by omega
          have hku := kids_weigh u
          have htu := total_le_weigh u.kids
          have hwu := HWU.out
          have HSM := Lib.hid (regrown_any (w := wc) (f := 26) (args := #[.agg #[.string u.kind, .string u.text, .slice B1 m1 d1, .slice B2 m2 d2, .slice B3 u.kids.length d3], .agg #[.string u.kind, .string u.text, .slice E1 l1 e1, .slice E2 l2 e2, .slice E3 u.kids.length e3]]) (v := .bool true) fun W hW =>
            walk_res (nsame_any _ _ u u W ((HNUC.out.below hW).more hW.size) ((HNX.out.below hW).more hW.size) HWU.out HWU.out) (sameB_self u))
          have HTU := Lib.hid (regrown_any (w := wc) (f := 24) (args := #[.slice B3 u.kids.length d3]) (v := .int .i64 (totalB u.kids)) fun W hW =>
            total_any _ u.kids W ((HNUC.out.kidsOf.below hW).more hW.size) (by omega))
          have hpos := HOK.out.pos
          have hfit := HOK.out.fit
          simp only at hpos hfit
          rw [HST.out] at hpos
          generalize totalB (u.kids.take j) = tj at *
          generalize totalB u.kids = tu at *
          have htb : tu ≤ 1000000 := by omega
          have q1 : ¬ (k : Int) < (aa : Int) + 1 := by omega
          have q2 : ¬ ((aa : Int) + 1 + (tu : Int)) < (k : Int) := by omega
          have g0 := cell_regrown m0
          have g1 := cell_regrown m1'
          have g2 := cell_regrown m2'
          have g3 := cell_regrown m3
          have g4 := cell_regrown m4
          have t0 := cell_regrown v0
          have t1 := cell_regrown cx
          have t4 := cell_regrown z4
          have y0 := cell_regrown r0
          have y1 := cell_regrown r1
          have y2 := cell_regrown r2
          have y3 := cell_regrown r3
          have y4 := cell_regrown r4
          clear m0 m1' m2' m3 m4 v0 v1 v2 z0 z1 z2 z3 z4 cx r0 r1 r2 r3 r4 n0 n1 n2 n3 n4 s0 s1 s2 hnx hny hgc hbc hpos hfit hku htu hwu
          go_wp2_with fail
          refine wp_region_quiet_below (by kernel_rfl) (by kernel_rfl) ?_
          repeat (first | go_big_quiet_step (first | exact HSM.out _ _ | exact HTU.out _ _) | quiet_step (first | exact HSM.out _ _ | exact HTU.out _ _))
          refine wpQuiet_nil ?_
          intro _ hw'
          obtain ⟨⟨dq, osq⟩, hw''⟩ := hw'
          subst hw''
          have hbq := below_regrown wc dq osq
          clear g0 g1 g2 g3 g4 t0 t1 t4 y0 y1 y2 y3 y4
          generalize grow (redrawn wc dq) osq = wq at *
          have hzq := hbq.size
          have HBQ := Lib.hid (belowNext HBC.out hbq)
          have HDQ := Lib.hid ((hbq.block w2.heap.size (by omega)).trans HDC.out)
          clear hbq
          go_wp2
          exact ⟨⟨k + 1, by omega, by go_num, HBQ.out, by omega, HDQ⟩, by simp [intOf]; omega⟩
    · go_wp2
      go_ret
      exact ⟨rfl, belowNext HB2.out HB3.out⟩
end Go.Proofs.Ytpcipihhaanpjaa
