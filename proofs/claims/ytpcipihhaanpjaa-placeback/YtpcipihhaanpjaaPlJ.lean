/-
  PlaceBack walked.
-/
import Derived.Test.YtpcipihhaanpjaaPlS
namespace Go.Proofs.Ytpcipihhaanpjaa
open Go.RowKit Go.Sort Go.Maps

/-- What is known of the spot ahead. -/
structure LastAt (w2 wr : World) (l : List Cel) (k : Nat) (A : Option Addr) (c : Nat) (pl : List Int) (jl ol : Int) : Prop where
  spot : wr.heap[w2.heap.size + 1]? = some (.cells #[.slice A pl.length c, .int .i64 jl, .int .i64 ol] 25)
  ints : Ints wr (From (w2.heap.size + 2) wr.heap.size) (.slice A pl.length c) pl
  ne : ∀ p, ∀ j o : Nat, resolveB (docB l) (k : Int) = some (p, j, o) → (decide (p = pl) && (((j : Int) == jl) && ((o : Int) == ol))) = false

set_option maxHeartbeats 20000000 in
set_option maxRecDepth 100000 in
theorem placeBack_walk (v : Value) (l : List Cel) (w : World) (h : Cels w (Under w.heap.size) v l) :
    Calls Try.prog 5 #[v] w fun e w' => e = .returned (.bool true) ∧ Below w.heap.size w w' := by
  have HC := Lib.hid h
  clear h
  go_enter Try.func5, Try.ntmps5
  go_wp2_with fail
  refine (shown4_any _).mono ?_
  rintro e w1 ⟨rfl, hb1⟩
  have HB1 := Lib.hid hb1
  clear hb1
  go_wp2_with fail
  refine (doc_any _ l w1 ((HC.out.below HB1.out).more HB1.out.size)).mono ?_
  rintro e w2 ⟨A, c, rfl, hk2, hb2⟩
  have HB2 := Lib.hid (belowNext HB1.out hb2)
  have hlen := length_le_weigh (madeB l)
  have hmw := madeB_weigh l
  have hdw := docB_weigh l
  have htw := total_le_weigh (madeB l)
  have HK2 := Lib.hid (hk2.keep (S' := Under w2.heap.size) (fun _ h => h.2) (fun _ _ => rfl))
  have HND : Hid (∀ W, Below w2.heap.size w2 W → Node W (Under W.heap.size) (.agg (docCells A (madeB l).length c)) (docB l)) := Lib.hid fun W hW => doc_node ((HK2.out.below hW).more hW.size)
  have HKD : Hid (∀ W, Below w2.heap.size w2 W → Kids W (Under W.heap.size) (.slice A (madeB l).length c) (madeB l)) := Lib.hid fun W hW => (HK2.out.below hW).more hW.size
  clear hk2 hb2
  have HTT : Hid (∀ W, Below w2.heap.size w2 W → Calls Try.prog 24 #[.slice A (madeB l).length c] W fun e w' => e = .returned (.int .i64 (totalB (madeB l))) ∧ Below W.heap.size W w') := Lib.hid fun W hW => total_any _ (madeB l) W (HKD.out W hW) (by omega)
  have HSP := Lib.hid (fun k hk => doc_spot l (k := k) hk)
  have HEND : Hid (resolveB (docB l) ((totalB (madeB l) + 1 : Nat) : Int) = none) := Lib.hid (by rw [resolveB_nat (docB_plain l), List.getElem?_eq_none]; rw [spotsB_len, docB_kids]; exact Nat.le_refl _)
  generalize totalB (madeB l) = T at *
  go_wp2
  go_loopw [6] (fun i wr => ∃ (k : Nat) (A' : Option Addr) (c' : Nat) (pl : List Int) (jl ol : Int), k ≤ T + 1 ∧ i = .int .i64 k ∧ Below w2.heap.size w2 wr ∧ w2.heap.size + 2 ≤ wr.heap.size ∧ Hid (wr.heap[w2.heap.size]? = some (.cells (docCells A (madeB l).length c) 31)) ∧ Hid (LastAt w2 wr l k A' c' pl jl ol)) (fun i _ => T + 1 - (intOf i).toNat)
  case atStart =>
    refine ⟨0, none, 0, [], -1, 0, by omega, rfl, ((Below.refl _ _).alloc (Nat.le_refl _) _).alloc (by simp) _, by simp, Lib.hid (heap_old _ _ _ (heap_new _ _)), Lib.hid ⟨heap_new' _ _ (by simp), ⟨none, 0, rfl, Nat.le_refl _, by unfold maxLen; omega, .inl rfl⟩, fun p j o _ => ?_⟩⟩
    have : ((j : Int) == -1) = false := by rw [beq_eq_false_iff_ne]; omega
    rw [this]; simp
  case round =>
    obtain ⟨k, A', c', pl, jl, ol, hk, rfl, hb, hz, hdc, hla⟩ := hrel
    obtain ⟨x0, x1, x2, x3, x4⟩ := cells5 hdc.out
    have HB := Lib.hid hb
    go_wp2_with fail
    refine (HTT.out wr hb).mono ?_
    rintro e w3 ⟨rfl, hb3⟩
    have hz3 := hb3.size
    have hd3 := (hb3.block w2.heap.size (by omega)).trans hdc.out
    have hs3 := (hb3.block (w2.heap.size + 1) (by omega)).trans hla.out.spot
    have HB3 := Lib.hid (belowNext HB.out hb3)
    have HI3 := Lib.hid (hla.out.ints.keep (S' := From (w2.heap.size + 2) w3.heap.size) (fun b hb => ⟨hb.1, Nat.lt_of_lt_of_le hb.2 hz3⟩) (fun b hb => hb3.block b hb.2))
    have HNE := Lib.hid hla.out.ne
    have HD3 := Lib.hid hd3
    have HS3 := Lib.hid hs3
    clear x0 x1 x2 x3 x4 hb hb3 hdc hla
    obtain ⟨x0, x1, x2, x3, x4⟩ := cells5 hd3
    clear hd3 hs3
    by_cases hkT : k ≤ T
    · obtain ⟨p, j, o, u, hres, hok⟩ := HSP.out k hkT
      have HOK := Lib.hid hok
      have hN := Lib.hid (HNE.out p j o hres)
      have HPR := Lib.hid (path_range p (docB l) u hok.go (by omega))
      have HWU : Hid (weigh u ≤ 1000000) := Lib.hid (Nat.le_trans (goB_weigh p (docB l) u hok.go) (by omega))
      have hj : j ≤ 1000000 := by have := hok.le; have := length_le_weigh u.kids; have := kids_weigh u; have := HWU.out; simp only at *; omega
      have ho : o ≤ 1000000 := by have := hok.pos; simp only at this; omega
      go_wp2_with fail
      refine (resolve_any _ (docB l) (k : Int) w3 (HND.out w3 HB3.out) (by omega) (by omega) (by omega)).mono ?_
      rintro e w4 ⟨hb4, hr4⟩
      rw [hres] at hr4
      rcases hr4 with ⟨hr4, _⟩ | ⟨p', j', o', A4, c4, hr4, rfl, hi4⟩
      · cases hr4
      simp only [Option.some.injEq, Prod.mk.injEq] at hr4
      obtain ⟨rfl, rfl, rfl⟩ := hr4
      have hz4 := hb4.size
      have HB4 := Lib.hid (belowNext HB3.out hb4)
      have ha5 : Below w4.heap.size w4 (w4.alloc (.cells #[.slice A4 p.length c4, .int .i64 (j : Int), .int .i64 (o : Int)] 25)) := (Below.refl _ _).alloc (Nat.le_refl _) _
      have hs5 : (w4.alloc (.cells #[.slice A4 p.length c4, .int .i64 (j : Int), .int .i64 (o : Int)] 25)).heap[w4.heap.size]? = some (.cells #[.slice A4 p.length c4, .int .i64 (j : Int), .int .i64 (o : Int)] 25) := heap_new _ _
      have hz5 : (w4.alloc (.cells #[.slice A4 p.length c4, .int .i64 (j : Int), .int .i64 (o : Int)] 25)).heap.size = w4.heap.size + 1 := by simp
      have hd5 := (ha5.block w2.heap.size (by omega)).trans ((hb4.block w2.heap.size (by omega)).trans HD3.out)
      have HB5 := Lib.hid (belowNext HB4.out ha5)
      have HB35 := Lib.hid (belowNext hb4 ha5)
      have HI5 : Hid (Ints (w4.alloc (.cells #[.slice A4 p.length c4, .int .i64 (j : Int), .int .i64 (o : Int)] 25)) (From w3.heap.size (w4.alloc (.cells #[.slice A4 p.length c4, .int .i64 (j : Int), .int .i64 (o : Int)] 25)).heap.size) (.slice A4 p.length c4) p) := Lib.hid (hi4.keep (fun b hb => ⟨hb.1, Nat.lt_of_lt_of_le hb.2 ha5.size⟩) (fun b hb => ha5.block b hb.2))
      have HS5 := Lib.hid hs5
      have HD5 := Lib.hid hd5
      obtain ⟨n0, n1, n2, n3, n4⟩ := cells5 hd5
      clear hb4 hi4 ha5 hs5 hd5 x0 x1 x2 x3 x4
      go_wp2_with fail
      generalize w4.alloc (.cells #[.slice A4 p.length c4, .int .i64 (j : Int), .int .i64 (o : Int)] 25) = w5 at *
      refine (pos_any _ _ (docB l) p (j : Int) (o : Int) w5 (HND.out w5 HB5.out) (HI5.out.keep (fun b hb => hb.2) (fun _ _ => rfl)) HPR.out (by omega) (by omega) (by omega) (by omega) (by omega)).mono ?_
      rintro e w6 ⟨he, hb6⟩
      rw [HOK.out.back] at he
      simp only [posE] at he
      subst he
      have hz6 := hb6.size
      have HB6 := Lib.hid (belowNext HB5.out hb6)
      have HB36 := Lib.hid (belowNext HB35.out hb6)
      have HS6 := Lib.hid ((hb6.block w4.heap.size (by omega)).trans HS5.out)
      have HD6 := Lib.hid ((hb6.block w2.heap.size (by omega)).trans HD5.out)
      have HI6 := Lib.hid (HI5.out.keep (S' := From w3.heap.size w6.heap.size) (fun b hb => ⟨hb.1, Nat.lt_of_lt_of_le hb.2 hb6.size⟩) (fun b hb => hb6.block b hb.2))
      clear hb6 n0 n1 n2 n3 n4 HS5 HD5 HI5
      obtain ⟨n0, n1, n2, n3, n4⟩ := cells5 HD6.out
      obtain ⟨s0, s1, s2⟩ := cells3 HS6.out
      go_wp2_with fail
      refine (inner_any _ _ (docB l) p w6 (HND.out w6 HB6.out) (HI6.out.keep (fun b hb => hb.2) (fun _ _ => rfl)) HPR.out (by omega)).mono ?_
      rintro e w7 ⟨B1, m1, d1, B2, m2, d2, B3, d3, u', nn, rfl, hnu, hfo, hb7⟩
      rw [HOK.out.follow] at hfo
      obtain ⟨rfl, rfl⟩ : u = u' ∧ nn = 0 := by
        rcases hfo with ⟨hfo, h0⟩ | ⟨hfo, _⟩
        · exact ⟨Option.some.inj hfo, h0⟩
        · cases hfo
      clear hfo
      have hz7 := hb7.size
      have HB7 := Lib.hid (belowNext HB6.out hb7)
      have HB37 := Lib.hid (belowNext HB36.out hb7)
      have ha8 : Below w7.heap.size w7 (w7.alloc (.cells #[.string u.kind, .string u.text, .slice B1 m1 d1, .slice B2 m2 d2, .slice B3 u.kids.length d3] 31)) := (Below.refl _ _).alloc (Nat.le_refl _) _
      have hn8 : (w7.alloc (.cells #[.string u.kind, .string u.text, .slice B1 m1 d1, .slice B2 m2 d2, .slice B3 u.kids.length d3] 31)).heap[w7.heap.size]? = some (.cells #[.string u.kind, .string u.text, .slice B1 m1 d1, .slice B2 m2 d2, .slice B3 u.kids.length d3] 31) := heap_new _ _
      have hz8 : (w7.alloc (.cells #[.string u.kind, .string u.text, .slice B1 m1 d1, .slice B2 m2 d2, .slice B3 u.kids.length d3] 31)).heap.size = w7.heap.size + 1 := by simp
      have hs8 := (ha8.block w4.heap.size (by omega)).trans ((hb7.block w4.heap.size (by omega)).trans HS6.out)
      have hd8 := (ha8.block w2.heap.size (by omega)).trans ((hb7.block w2.heap.size (by omega)).trans HD6.out)
      have HI8 : Hid (Ints (w7.alloc (.cells #[.string u.kind, .string u.text, .slice B1 m1 d1, .slice B2 m2 d2, .slice B3 u.kids.length d3] 31)) (From w3.heap.size (w7.alloc (.cells #[.string u.kind, .string u.text, .slice B1 m1 d1, .slice B2 m2 d2, .slice B3 u.kids.length d3] 31)).heap.size) (.slice A4 p.length c4) p) := Lib.hid (HI6.out.keep (fun b hb => ⟨hb.1, Nat.lt_of_lt_of_le hb.2 (Nat.le_trans hb7.size ha8.size)⟩) (fun b hb => (ha8.block b (Nat.lt_of_lt_of_le hb.2 hb7.size)).trans (hb7.block b hb.2)))
      have HKU : Hid (Kids (w7.alloc (.cells #[.string u.kind, .string u.text, .slice B1 m1 d1, .slice B2 m2 d2, .slice B3 u.kids.length d3] 31)) (Under (w7.alloc (.cells #[.string u.kind, .string u.text, .slice B1 m1 d1, .slice B2 m2 d2, .slice B3 u.kids.length d3] 31)).heap.size) (.slice B3 u.kids.length d3) u.kids) := Lib.hid (hnu.kidsOf.keep (fun b hb => Nat.lt_of_lt_of_le hb.2 ha8.size) (fun b hb => ha8.block b hb.2))
      have HB8 := Lib.hid (belowNext HB7.out ha8)
      have HB38 := Lib.hid (belowNext HB37.out ha8)
      have HN8 := Lib.hid hn8
      have HS8 := Lib.hid hs8
      have HD8 := Lib.hid hd8
      clear n0 n1 n2 n3 n4 s0 s1 s2 hb7 hnu HS6 HD6 HI6
      obtain ⟨n0, n1, n2, n3, n4⟩ := cells5 hd8
      obtain ⟨s0, s1, s2⟩ := cells3 hs8
      clear ha8 hn8 hs8 hd8
      go_wp2_with fail
      generalize w7.alloc (.cells #[.string u.kind, .string u.text, .slice B1 m1 d1, .slice B2 m2 d2, .slice B3 u.kids.length d3] 31) = w8 at *
      refine (startP_any _ _ (docB l) p w8 (HND.out w8 HB8.out) (HI8.out.keep (fun b hb => hb.2) (fun _ _ => rfl)) HPR.out (by omega)).mono ?_
      rintro e w9 ⟨he, hb9⟩
      rw [HOK.out.follow] at he
      simp only [Option.map_some, posE] at he
      subst he
      have hz9 := hb9.size
      have HB9 := Lib.hid (belowNext HB8.out hb9)
      have HB39 := Lib.hid (belowNext HB38.out hb9)
      have HS9 := Lib.hid ((hb9.block w4.heap.size (by omega)).trans HS8.out)
      have HD9 := Lib.hid ((hb9.block w2.heap.size (by omega)).trans HD8.out)
      have HN9 := Lib.hid ((hb9.block w7.heap.size (by omega)).trans HN8.out)
      have HL9 := Lib.hid ((HB39.out.block (w2.heap.size + 1) (by omega)).trans HS3.out)
      have HI9 := Lib.hid (HI8.out.keep (S' := From w3.heap.size w9.heap.size) (fun b hb => ⟨hb.1, Nat.lt_of_lt_of_le hb.2 hb9.size⟩) (fun b hb => hb9.block b hb.2))
      have HIL9 := Lib.hid (HI3.out.keep (S' := From (w2.heap.size + 2) w9.heap.size) (fun b hb => ⟨hb.1, Nat.lt_of_lt_of_le hb.2 HB39.out.size⟩) (fun b hb => HB39.out.block b hb.2))
      have HKU9 := Lib.hid (HKU.out.keep (S' := Under w9.heap.size) (fun b hb => Nat.lt_of_lt_of_le hb hb9.size) (fun b hb => hb9.block b hb))
      clear hb9 n0 n1 n2 n3 n4 s0 s1 s2 HS8 HD8 HI8 HN8 HKU
      obtain ⟨n0, n1, n2, n3, n4⟩ := cells5 HN9.out
      obtain ⟨s0, s1, s2⟩ := cells3 HS9.out
      obtain ⟨l0, l1, l2⟩ := cells3 HL9.out
      have hjk : j ≤ u.kids.length := HOK.out.le
      have hlu := HKU9.out.len
      have i1 : j ≤ d3 := by omega
      have i2 : ¬ (u.kids.length : Int) < (j : Int) := by omega
      have HTU := Lib.hid (regrown_any (w := w9) (f := 24) (args := #[.slice B3 j d3]) (v := .int .i64 (totalB (u.kids.take j))) fun W hW =>
        total_any _ (u.kids.take j) W (((HKU9.out.below hW).more hW.size).upto hjk) (by have := weighAll_take u.kids j; have := kids_weigh u; have := HWU.out; omega))
      have HAS := Lib.hid (regrown_any (w := w9) (f := 15) (args := #[.agg #[.slice A4 p.length c4, .int .i64 (j : Int), .int .i64 (o : Int)]]) (v := .agg #[.slice A4 p.length c4, .int .i64 (j : Int), .int .i64 (o : Int)]) fun W _ => as4_any _ _ _ _ _ _ rfl W)
      have HAL := Lib.hid (regrown_any (w := w9) (f := 15) (args := #[.agg #[.slice A' pl.length c', .int .i64 jl, .int .i64 ol]]) (v := .agg #[.slice A' pl.length c', .int .i64 jl, .int .i64 ol]) fun W _ => as4_any _ _ _ _ _ _ rfl W)
      have HSS := Lib.hid (regrown_any (w := w9) (f := 16) (args := #[.agg #[.slice A4 p.length c4, .int .i64 (j : Int), .int .i64 (o : Int)], .agg #[.slice A' pl.length c', .int .i64 jl, .int .i64 ol]]) (v := .bool false) fun W hW => by
        rw [← hN.out]; exact sameS_any _ _ p pl (j : Int) (o : Int) jl ol W (HI9.out.keep (fun b hb => Nat.lt_of_lt_of_le hb.2 hW.size) (fun b hb => hW.block b hb.2)) (HIL9.out.keep (fun b hb => Nat.lt_of_lt_of_le hb.2 hW.size) (fun b hb => hW.block b hb.2)))
      have hpos : startB (docB l) p + totalB (u.kids.take j) + o = k := HOK.out.pos
      generalize startB (docB l) p = ss at *
      generalize totalB (u.kids.take j) = tt at *
      have e1 : (((ss : Int) + (tt : Int) + (o : Int)) != (k : Int)) = false := by simp; omega
      have r0 := cell_regrown s0
      have r1 := cell_regrown s1
      have r2 := cell_regrown s2
      have r3 := cell_regrown n4
      have t0 := cell_regrown l0
      have t1 := cell_regrown l1
      have t2 := cell_regrown l2
      clear n0 n1 n2 n3 n4 s0 s1 s2 l0 l1 l2
      go_wp2_with fail
      refine wp_region_quiet_below (by kernel_rfl) (by kernel_rfl) ?_
      repeat (first | go_big_quiet_step (first | exact HTU.out _ _ | exact HAS.out _ _ | exact HAL.out _ _ | exact HSS.out _ _) | quiet_step (first | exact HTU.out _ _ | exact HAS.out _ _ | exact HAL.out _ _ | exact HSS.out _ _))
      refine wpQuiet_nil ?_
      intro _ hw'
      obtain ⟨⟨dq, osq⟩, hw''⟩ := hw'
      subst hw''
      have hbq := below_regrown w9 dq osq
      clear r0 r1 r2 r3 t0 t1 t2
      generalize grow (redrawn w9 dq) osq = wq at *
      have HBQ := Lib.hid (belowNext HB9.out hbq)
      have HSQ := Lib.hid ((hbq.block w4.heap.size (by omega)).trans HS9.out)
      have HDQ := Lib.hid ((hbq.block w2.heap.size (by omega)).trans HD9.out)
      have HLQ := Lib.hid ((hbq.block (w2.heap.size + 1) (by omega)).trans HL9.out)
      have HIQ := Lib.hid (HI9.out.keep (S' := From w3.heap.size wq.heap.size) (fun b hb => ⟨hb.1, Nat.lt_of_lt_of_le hb.2 hbq.size⟩) (fun b hb => hbq.block b hb.2))
      have hzq := hbq.size
      obtain ⟨s0, s1, s2⟩ := cells3 HSQ.out
      obtain ⟨l0, l1, l2⟩ := cells3 HLQ.out
      have f0 := frozen_of_row _ _ 0 _ _ HLQ.out
      have f1 := frozen_of_row _ _ 1 _ _ HLQ.out
      have f2 := frozen_of_row _ _ 2 _ _ HLQ.out
      clear hbq
      go_wp2
      have hpz := put3z_size (w := wq) (g := w2.heap.size + 1) (v0 := .slice A4 p.length c4) (v1 := .int .i64 (j : Int)) (v2 := .int .i64 (o : Int))
      refine ⟨⟨k + 1, A4, c4, p, (j : Int), (o : Int), by omega, by go_num, put3z_below (Nat.le_succ _) HBQ.out, by unfold put3z at hpz; omega, Lib.hid ((put3z_other (by omega)).trans HDQ.out), Lib.hid ⟨put3z_block HLQ.out, HIQ.out.keep (fun b hb => ⟨by have := hb.1; omega, by unfold put3z at hpz; rw [hpz]; exact hb.2⟩) (fun b hb => put3z_other (g := w2.heap.size + 1) (by have := hb.1; omega)), fun p2 j2 o2 h2 => ?_⟩⟩, by simp [intOf]; omega⟩
      rw [Bool.eq_false_iff]
      intro hh
      simp only [Bool.and_eq_true, decide_eq_true_eq, beq_iff_eq] at hh
      obtain ⟨rfl, h3, h4⟩ := hh
      rw [resolveB_nat (docB_plain l)] at h2
      obtain ⟨u2, hu2⟩ := spots_ok (docB l) (docB_plain l) (k + 1) _ h2
      have ej : j2 = j := by omega
      have eo : o2 = o := by omega
      subst ej; subst eo
      have q1 := hu2.back
      rw [HOK.out.back] at q1
      have := Option.some.inj q1
      omega
    · have HN1 := Lib.hid (show resolveB (docB l) (-1) = none by unfold resolveB; rw [docB_plain]; simp)
      obtain rfl : k = T + 1 := by omega
      have hkT' : ¬ ((T + 1 : Nat) : Int) ≤ (T : Int) := by omega
      clear HNE HS3 HI3
      go_wp2_with fail
      refine (resolve_none (HND.out w3 HB3.out) (by omega) (by decide) (by decide) HN1.out).mono ?_
      rintro e w4 ⟨rfl, hb4⟩
      have hz4 := hb4.size
      have ha5 : Below w4.heap.size w4 (w4.alloc (.cells #[.slice none 0 0, .int .i64 0, .int .i64 0] 25)) := (Below.refl _ _).alloc (Nat.le_refl _) _
      have hz5 : (w4.alloc (.cells #[.slice none 0 0, .int .i64 0, .int .i64 0] 25)).heap.size = w4.heap.size + 1 := by simp
      have hd5 := (ha5.block w2.heap.size (by omega)).trans ((hb4.block w2.heap.size (by omega)).trans HD3.out)
      have HB5 := Lib.hid (belowNext (belowNext HB3.out hb4) ha5)
      have HD5 := Lib.hid hd5
      obtain ⟨n0, n1, n2, n3, n4⟩ := cells5 hd5
      clear hb4 ha5 hd5 x0 x1 x2 x3 x4
      go_wp2_with fail
      generalize w4.alloc (.cells #[.slice none 0 0, .int .i64 0, .int .i64 0] 25) = w5 at *
      have D0 : Hid (w5.drew.heap[w2.heap.size]? = some (.cells (docCells A (madeB l).length c) 31)) := Lib.hid HD5.out
      have B0 : Hid (Below w2.heap.size w2 w5.drew) := Lib.hid HB5.out.drew
      have B1 : Hid (Below w2.heap.size w2 ((w5.alloc (.cells #[.slice none 0 0, .int .i64 0, .int .i64 0] 25)).drew)) := Lib.hid (HB5.out.alloc HB5.out.size _).drew
      have L0 : Hid (w2.heap.size < w5.drew.heap.size) := Lib.hid (show w2.heap.size < w5.heap.size by omega)
      have L1 : Hid (w2.heap.size < ((w5.alloc (.cells #[.slice none 0 0, .int .i64 0, .int .i64 0] 25)).drew).heap.size) := Lib.hid (show w2.heap.size < (w5.alloc (.cells #[.slice none 0 0, .int .i64 0, .int .i64 0] 25)).heap.size by simp; omega)
      have D1 : Hid (((w5.alloc (.cells #[.slice none 0 0, .int .i64 0, .int .i64 0] 25)).drew).heap[w2.heap.size]? = some (.cells (docCells A (madeB l).length c) 31)) := Lib.hid (show (w5.alloc (.cells #[.slice none 0 0, .int .i64 0, .int .i64 0] 25)).heap[w2.heap.size]? = _ from heap_old _ _ _ HD5.out)
      have S1 : Hid (((w5.alloc (.cells #[.slice none 0 0, .int .i64 0, .int .i64 0] 25)).drew).heap[w5.heap.size]? = some (.cells #[.slice none 0 0, .int .i64 0, .int .i64 0] 25)) := Lib.hid (show (w5.alloc (.cells #[.slice none 0 0, .int .i64 0, .int .i64 0] 25)).heap[w5.heap.size]? = _ from heap_new _ _)
      have K1 : Hid (w5.heap.size < ((w5.alloc (.cells #[.slice none 0 0, .int .i64 0, .int .i64 0] 25)).drew).heap.size) := Lib.hid (show w5.heap.size < (w5.alloc (.cells #[.slice none 0 0, .int .i64 0, .int .i64 0] 25)).heap.size by simp)
      have M1 : Hid (w2.heap.size ≤ w5.heap.size) := Lib.hid (by omega)
      obtain ⟨k0, k1, k2, k3, k4⟩ := cells5 D1.out
      have HRN : Hid (∀ W, Below w2.heap.size w2 W → Calls Try.prog 11 #[.agg (docCells A (madeB l).length c), .int .i64 ((T : Int) + 1)] W fun e w' => e = .returned (.tuple #[.agg #[.slice none 0 0, .int .i64 0, .int .i64 0], .int .i64 3]) ∧ Below W.heap.size W w') := Lib.hid fun W hW => resolve_none (HND.out W hW) (by omega) (by omega) (by omega) HEND.out
      have hT9 : (T : Int) + 1 ≤ 9223372036854775807 := by omega
      have hwr : IntKind.i64.wrap ((T : Int) + 1) = (T : Int) + 1 := IntWalk.i64_in _ (by omega)
      clear hkT hkT' hz5
      go_region_law (first
        | ((with_reducible refine step_total (v := .slice A (madeB l).length c) (n := (T : Int)) (w := w5.drew) rfl (.tmp 116) rfl rfl (HTT.out _ B0.out) ?_); intro w6 hb6; have B6 := Lib.hid (belowNext B0.out hb6); have D6 := Lib.hid ((hb6.block _ L0.out).trans D0.out); obtain ⟨a0, a1, a2, a3, a4⟩ := cells5 D6.out; have B7 : Hid (Below w2.heap.size w2 (w6.alloc (.cells #[.slice none 0 0, .int .i64 0, .int .i64 0] 25))) := Lib.hid (B6.out.alloc B6.out.size _); obtain ⟨b0, b1, b2, b3, b4⟩ := cells5 (show (w6.alloc (.cells #[.slice none 0 0, .int .i64 0, .int .i64 0] 25)).heap[w2.heap.size]? = some (.cells (docCells A (madeB l).length c) 31) from heap_old _ _ _ D6.out); have S7 : Hid ((w6.alloc (.cells #[.slice none 0 0, .int .i64 0, .int .i64 0] 25)).heap[w6.heap.size]? = some (.cells #[.slice none 0 0, .int .i64 0, .int .i64 0] 25)) := Lib.hid (heap_new _ _); have K7 : Hid (w6.heap.size < (w6.alloc (.cells #[.slice none 0 0, .int .i64 0, .int .i64 0] 25)).heap.size) := Lib.hid (by simp); have M7 : Hid (w2.heap.size ≤ w6.heap.size) := Lib.hid B6.out.size; clear hb6)
        | ((with_reducible refine step_total (v := .slice A (madeB l).length c) (n := (T : Int)) (w := (w5.alloc (.cells #[.slice none 0 0, .int .i64 0, .int .i64 0] 25)).drew) rfl (.tmp 116) rfl rfl (HTT.out _ B1.out) ?_); intro w6 hb6; have B6 := Lib.hid (belowNext B1.out hb6); have D6 := Lib.hid ((hb6.block _ L1.out).trans D1.out); have S6 := Lib.hid ((hb6.block _ K1.out).trans S1.out); have K6 : Hid (w5.heap.size < w6.heap.size) := Lib.hid (Nat.lt_of_lt_of_le K1.out hb6.size); obtain ⟨a0, a1, a2, a3, a4⟩ := cells5 D6.out; clear hb6)
        | ((with_reducible refine step_resolve (v := .agg (docCells A (madeB l).length c)) (m := (T : Int) + 1) (x := .tuple #[.agg #[.slice none 0 0, .int .i64 0, .int .i64 0], .int .i64 3]) (w := w6) rfl (.tmp 114) (.tmp 118) rfl rfl rfl (HRN.out _ B6.out) ?_); intro w7 hb7; have B8 := Lib.hid (belowNext B6.out hb7); have S8 := Lib.hid ((hb7.block _ K6.out).trans S6.out); have M8 : Hid (w2.heap.size ≤ w5.heap.size) := M1; obtain ⟨c0, c1, c2⟩ := cells3 S8.out; have f0 := frozen_of_row _ _ 0 _ _ S8.out; have f1 := frozen_of_row _ _ 1 _ _ S8.out; have f2 := frozen_of_row _ _ 2 _ _ S8.out; clear hb7)
        | ((with_reducible refine step_resolve (v := .agg (docCells A (madeB l).length c)) (m := (T : Int) + 1) (x := .tuple #[.agg #[.slice none 0 0, .int .i64 0, .int .i64 0], .int .i64 3]) (w := w6) rfl (.tmp 114) (.tmp 118) rfl rfl rfl (HRN.out _ B6.out) ?_); intro w7 hb7; have B8 := Lib.hid (belowNext B6.out hb7); clear hb7)
        | ((with_reducible refine step_resolve (v := .agg (docCells A (madeB l).length c)) (m := (T : Int) + 1) (x := .tuple #[.agg #[.slice none 0 0, .int .i64 0, .int .i64 0], .int .i64 3]) (w := w6.alloc (.cells #[.slice none 0 0, .int .i64 0, .int .i64 0] 25)) rfl (.tmp 114) (.tmp 118) rfl rfl rfl (HRN.out _ B7.out) ?_); intro w7 hb7; have B8 := Lib.hid (belowNext B7.out hb7); have S8 := Lib.hid ((hb7.block _ K7.out).trans S7.out); have M8 : Hid (w2.heap.size ≤ w6.heap.size) := M7; obtain ⟨c0, c1, c2⟩ := cells3 S8.out; have f0 := frozen_of_row _ _ 0 _ _ S8.out; have f1 := frozen_of_row _ _ 1 _ _ S8.out; have f2 := frozen_of_row _ _ 2 _ _ S8.out; clear hb7))
      all_goals
        go_wp2
        go_ret
        first
          | exact ⟨rfl, belowNext HB2.out (put3z_below M8.out B8.out)⟩
          | exact ⟨rfl, belowNext HB2.out (B8.out.alloc B8.out.size _)⟩
end Go.Proofs.Ytpcipihhaanpjaa
