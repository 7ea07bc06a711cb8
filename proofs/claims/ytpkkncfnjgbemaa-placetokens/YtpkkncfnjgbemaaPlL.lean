/-
  PlaceTokens walked.
-/
import Derived.Test.YtpkkncfnjgbemaaPlS
import Derived.Test.YtpkkncfnjgbemaaPlT
import Derived.Test.YtpkkncfnjgbemaaK3
import Derived.Test.YtpkkncfnjgbemaaRuns
namespace Go.Proofs.Ytpkkncfnjgbemaa
open Go.RowKit Go.Sort Go.Maps

set_option maxHeartbeats 20000000 in
set_option maxRecDepth 100000 in
theorem placeTokens_walk (v : Value) (l : List Cel) (w : World) (h : Cels w (Under w.heap.size) v l) :
    Calls Try.prog 6 #[v] w fun e w' => e = .returned (.bool true) ∧ Below w.heap.size w w' := by
  have HC := Lib.hid h
  clear h
  go_enter Try.func6, Try.ntmps6
  go_wp2_with fail
  refine (shown4_any _).mono ?_
  rintro e w1 ⟨rfl, hb1⟩
  have HB1 := Lib.hid hb1
  clear hb1
  go_wp2_with fail
  refine (doc_any _ l w1 ((HC.out.below HB1.out).more HB1.out.size)).mono ?_
  rintro e w2 ⟨A, c, rfl, hk2, hb2⟩
  have HB2 := Lib.hid (belowNext HB1.out hb2)
  have hlen := length_le_weigh (madeB l)
  have hmw := madeB_weigh l
  have hdw := docB_weigh l
  have htw := total_le_weigh (madeB l)
  have HK2 := Lib.hid (hk2.keep (S' := Under w2.heap.size) (fun _ h => h.2) (fun _ _ => rfl))
  have ha3 : Below w2.heap.size w2 (w2.alloc (.cells (docCells A (madeB l).length c) 31)) := (Below.refl _ _).alloc (Nat.le_refl _) _
  have HD3 : Hid ((w2.alloc (.cells (docCells A (madeB l).length c) 31)).heap[w2.heap.size]? = some (.cells (docCells A (madeB l).length c) 31)) := Lib.hid (heap_new _ _)
  have HA3 := Lib.hid ha3
  have HZ3 : Hid ((w2.alloc (.cells (docCells A (madeB l).length c) 31)).heap.size = w2.heap.size + 1) := Lib.hid (by simp)
  obtain ⟨x0, x1, x2, x3, x4⟩ := cells5 HD3.out
  clear hk2 hb2 ha3
  go_wp2_with fail
  generalize w2.alloc (.cells (docCells A (madeB l).length c) 31) = w3 at *
  refine (of_any _ (madeB l) w3 ((HK2.out.below HA3.out).more HA3.out.size) (by omega)).mono ?_
  rintro e w4 ⟨vt, rfl, htr, hb4⟩
  have HTK := Lib.hid htr.toks
  have hz3 := HZ3.out
  have hz4 := hb4.size
  have HB4 := Lib.hid (belowNext HA3.out hb4)
  have HD4 := Lib.hid ((hb4.block w2.heap.size (by omega)).trans HD3.out)
  have hTL : (toksB (madeB l)).length = totalB (madeB l) := toksB_len _
  obtain ⟨At, ct, rfl, htc, htm⟩ : ∃ At ct, vt = .slice At (totalB (madeB l)) ct ∧ totalB (madeB l) ≤ ct ∧ ct ≤ maxLen := by
    obtain ⟨At, ct, hv, h1, h2, _⟩ := HTK.out
    exact ⟨At, ct, by rw [hv, hTL], by omega, h2⟩
  have HDD : Hid (∀ W, Below w4.heap.size w4 W → W.heap[w2.heap.size]? = some (.cells (docCells A (madeB l).length c) 31)) := Lib.hid fun W hW => (hW.block w2.heap.size (by omega)).trans HD4.out
  have HND : Hid (∀ W, Below w4.heap.size w4 W → Node W (Under W.heap.size) (.agg (docCells A (madeB l).length c)) (docB l)) := Lib.hid fun W hW => doc_node ((HK2.out.below (belowNext HB4.out hW)).more (belowNext HB4.out hW).size)
  have HTT : Hid (∀ W, Below w4.heap.size w4 W → Calls Try.prog 23 #[.slice A (madeB l).length c] W fun e w' => e = .returned (.int .i64 (totalB (madeB l))) ∧ Below W.heap.size W w') := Lib.hid fun W hW => total_any _ (madeB l) W ((HK2.out.below (belowNext HB4.out hW)).more (belowNext HB4.out hW).size) (by omega)
  have HTO : Hid (∀ W, Below w4.heap.size w4 W → Toks W (Under w4.heap.size) (.slice At (totalB (madeB l)) ct) (toksB (madeB l))) := Lib.hid fun W hW => HTK.out.keep (fun b hb => hb.2) (fun b hb => hW.block b hb.2)
  have HSP := Lib.hid (fun k hk => doc_spot l (k := k) hk)
  have HAT : Hid (∀ k s u, (spotsB 0 (docB l).kids)[k]? = some s → SpotOk (docB l) k s u → k < totalB (docB l).kids → (toksB (docB l).kids)[k]? = tokAt u.kids[s.2.1]? s.2.2) := Lib.hid fun k s u h1 h2 h3 => toks_at (docB_plain l) h1 h2 h3
  have HEN := Lib.hid (belowNext HB2.out HB4.out)
  unfold maxLen at htm
  clear x0 x1 x2 x3 x4 hb4 htr HTK HD3 HD4 HA3 HZ3
  go_wp2
  go_loopw [6] (fun i wr => ∃ k : Nat, k ≤ totalB (madeB l) ∧ i = .int .i64 k ∧ Below w4.heap.size w4 wr) (fun i _ => totalB (madeB l) - (intOf i).toNat)
  case atStart => exact ⟨0, by omega, rfl, Below.refl _ _⟩
  case round =>
    obtain ⟨k, hk, rfl, hb⟩ := hrel
    have HB := Lib.hid hb
    have hzr := hb.size
    obtain ⟨x0, x1, x2, x3, x4⟩ := cells5 (HDD.out wr hb)
    clear hb
    by_cases hkT : k < totalB (madeB l)
    · obtain ⟨p, j, o, u, hres, hok⟩ := HSP.out k (by omega)
      have HOK := Lib.hid hok
      have HPR := Lib.hid (path_range p (docB l) u hok.go (by omega))
      have HWU : Hid (weigh u ≤ 1000000) := Lib.hid (Nat.le_trans (goB_weigh p (docB l) u hok.go) (by omega))
      have hj : j ≤ 1000000 := by have := hok.le; have := length_le_weigh u.kids; have := kids_weigh u; have := HWU.out; simp only at *; omega
      have ho : o ≤ 1000000 := by have := hok.pos; simp only at this; omega
      have hjk : j ≤ u.kids.length := hok.le
      have HTA : Hid ((toksB (madeB l))[k]? = tokAt u.kids[j]? o) := Lib.hid (HAT.out k (p, j, o) u (by rw [resolveB_nat (docB_plain l)] at hres; exact hres) hok hkT)
      clear hok
      go_wp2_with fail
      refine (resolve_any _ (docB l) (k : Int) wr (HND.out wr HB.out) (by omega) (by omega) (by omega)).mono ?_
      rintro e w5 ⟨hb5, hr5⟩
      rw [hres] at hr5
      rcases hr5 with ⟨hr5, _⟩ | ⟨p', j', o', A5, c5, hr5, rfl, hi5⟩
      · cases hr5
      simp only [Option.some.injEq, Prod.mk.injEq] at hr5
      obtain ⟨rfl, rfl, rfl⟩ := hr5
      have hz5 := hb5.size
      have HB5 := Lib.hid (belowNext HB.out hb5)
      have ha6 : Below w5.heap.size w5 (w5.alloc (.cells #[.slice A5 p.length c5, .int .i64 (j : Int), .int .i64 (o : Int)] 25)) := (Below.refl _ _).alloc (Nat.le_refl _) _
      have hs6 : (w5.alloc (.cells #[.slice A5 p.length c5, .int .i64 (j : Int), .int .i64 (o : Int)] 25)).heap[w5.heap.size]? = some (.cells #[.slice A5 p.length c5, .int .i64 (j : Int), .int .i64 (o : Int)] 25) := heap_new _ _
      have hz6 : (w5.alloc (.cells #[.slice A5 p.length c5, .int .i64 (j : Int), .int .i64 (o : Int)] 25)).heap.size = w5.heap.size + 1 := by simp
      have HB6 := Lib.hid (belowNext HB5.out ha6)
      have HI6 : Hid (Ints (w5.alloc (.cells #[.slice A5 p.length c5, .int .i64 (j : Int), .int .i64 (o : Int)] 25)) (Under (w5.alloc (.cells #[.slice A5 p.length c5, .int .i64 (j : Int), .int .i64 (o : Int)] 25)).heap.size) (.slice A5 p.length c5) p) := Lib.hid (hi5.keep (fun b hb => Nat.lt_of_lt_of_le hb.2 ha6.size) (fun b hb => ha6.block b hb.2))
      have HS6 := Lib.hid hs6
      have HZ6 := Lib.hid hz6
      clear x0 x1 x2 x3 x4
      obtain ⟨x0, x1, x2, x3, x4⟩ := cells5 (HDD.out _ HB6.out)
      obtain ⟨s0, s1, s2⟩ := cells3 hs6
      clear hb5 hi5 ha6 hs6 hz6
      go_wp2_with fail
      generalize w5.alloc (.cells #[.slice A5 p.length c5, .int .i64 (j : Int), .int .i64 (o : Int)] 25) = w6 at *
      refine (inner_any _ _ (docB l) p w6 (HND.out w6 HB6.out) HI6.out HPR.out (by omega)).mono ?_
      rintro e w7 ⟨B1, m1, d1, B2, m2, d2, B3, d3, u', nn, rfl, hnu, hfo, hb7⟩
      rw [HOK.out.follow] at hfo
      obtain ⟨rfl, rfl⟩ : u = u' ∧ nn = 0 := by
        rcases hfo with ⟨hfo, h0⟩ | ⟨hfo, _⟩
        · exact ⟨Option.some.inj hfo, h0⟩
        · cases hfo
      clear hfo
      have hz6 := HZ6.out
      have hz7 := hb7.size
      have HB7 := Lib.hid (belowNext HB6.out hb7)
      have ha8 : Below w7.heap.size w7 (w7.alloc (.cells #[.string u.kind, .string u.text, .slice B1 m1 d1, .slice B2 m2 d2, .slice B3 u.kids.length d3] 31)) := (Below.refl _ _).alloc (Nat.le_refl _) _
      have hn8 : (w7.alloc (.cells #[.string u.kind, .string u.text, .slice B1 m1 d1, .slice B2 m2 d2, .slice B3 u.kids.length d3] 31)).heap[w7.heap.size]? = some (.cells #[.string u.kind, .string u.text, .slice B1 m1 d1, .slice B2 m2 d2, .slice B3 u.kids.length d3] 31) := heap_new _ _
      have HZ8 : Hid ((w7.alloc (.cells #[.string u.kind, .string u.text, .slice B1 m1 d1, .slice B2 m2 d2, .slice B3 u.kids.length d3] 31)).heap.size = w7.heap.size + 1) := Lib.hid (by simp)
      have HS8 := Lib.hid ((ha8.block w5.heap.size (by omega)).trans ((hb7.block w5.heap.size (by omega)).trans HS6.out))
      have HKU : Hid (Kids (w7.alloc (.cells #[.string u.kind, .string u.text, .slice B1 m1 d1, .slice B2 m2 d2, .slice B3 u.kids.length d3] 31)) (Under (w7.alloc (.cells #[.string u.kind, .string u.text, .slice B1 m1 d1, .slice B2 m2 d2, .slice B3 u.kids.length d3] 31)).heap.size) (.slice B3 u.kids.length d3) u.kids) := Lib.hid (hnu.kidsOf.keep (fun b hb => Nat.lt_of_lt_of_le hb.2 ha8.size) (fun b hb => ha8.block b hb.2))
      have HB8 := Lib.hid (belowNext HB7.out ha8)
      have HN8 := Lib.hid hn8
      clear x0 x1 x2 x3 x4 s0 s1 s2 hb7 hnu HS6 HI6 ha8
      obtain ⟨n0, n1, n2, n3, n4⟩ := cells5 hn8
      obtain ⟨s0, s1, s2⟩ := cells3 HS8.out
      clear hn8
      have HTO8 := Lib.hid (HTO.out _ HB8.out)
      have hku : u.kids.length ≤ 1000000 := by have := length_le_weigh u.kids; have := kids_weigh u; have := HWU.out; omega
      have hul := HKU.out.len
      go_upto_region 13 with fail
      generalize w7.alloc (.cells #[.string u.kind, .string u.text, .slice B1 m1 d1, .slice B2 m2 d2, .slice B3 u.kids.length d3] 31) = w8 at *
      cases hx : u.kids[j]? with
      | none =>
        have hje : j = u.kids.length := by have := List.getElem?_eq_none_iff.1 hx; omega
        have HTC : Hid ((toksB (madeB l))[k]? = some closeT) := Lib.hid (by rw [HTA.out, hx]; rfl)
        obtain ⟨bt, ot, rfl, hbt, t0, t1, t2⟩ := HTO8.out.get HTC.out
        clear hx HTA
        subst hje
        simp only [closeT] at t0
        go_wp2
        exact ⟨⟨k + 1, by omega, by go_num, HB8.out⟩, by simp [intOf]; omega⟩
      | some x =>
        have hjl := (List.getElem?_eq_some_iff.1 hx).1
        have hjn : ((j : Int) == (u.kids.length : Int)) = false := by rw [beq_eq_false_iff_ne]; omega
        have hjn2 : ¬ (j : Int) = (u.kids.length : Int) := by omega
        have hwx : weigh x ≤ 1000000 := by have := weigh_kid hx; have := HWU.out; omega
        obtain ⟨bx, ox, E1, l1, e1, E2, l2, e2, E3, e3, rfl, hubx, r0, r1, r2, r3, r4, hnx⟩ := HKU.out.kid hx
        have HNX := Lib.hid hnx
        have ha9 : Below w8.heap.size w8 (w8.alloc (.cells #[.string x.kind, .string x.text, .slice E1 l1 e1, .slice E2 l2 e2, .slice E3 x.kids.length e3] 31)) := (Below.refl _ _).alloc (Nat.le_refl _) _
        have hn9 : (w8.alloc (.cells #[.string x.kind, .string x.text, .slice E1 l1 e1, .slice E2 l2 e2, .slice E3 x.kids.length e3] 31)).heap[w8.heap.size]? = some (.cells #[.string x.kind, .string x.text, .slice E1 l1 e1, .slice E2 l2 e2, .slice E3 x.kids.length e3] 31) := heap_new _ _
        have HZ9 : Hid ((w8.alloc (.cells #[.string x.kind, .string x.text, .slice E1 l1 e1, .slice E2 l2 e2, .slice E3 x.kids.length e3] 31)).heap.size = w8.heap.size + 1) := Lib.hid (by simp)
        have hz8 := HZ8.out
        have HS9 := Lib.hid ((ha9.block w5.heap.size (by omega)).trans HS8.out)
        have HN9 := Lib.hid hn9
        have HNX9 := Lib.hid ((HNX.out.below ha9).more ha9.size)
        have HB9 := Lib.hid (belowNext HB8.out ha9)
        have HTO9 := Lib.hid (HTO.out _ HB9.out)
        have hw58 : w5.heap.size < w8.heap.size := by omega
        clear hn9 ha9 hnx hz8
        cases hT : isTxt x.kind with
        | true =>
          have hk' : (x.kind.toList == [116, 101, 120, 116]) = true := hT
          have HTS : Hid ((toksB (madeB l))[k]? = ((pts x.text.data.toList).map (signT (headT x)))[o]?) := Lib.hid (by rw [HTA.out, hx]; simp [tokAt, hT])
          have hor : o < (pts x.text.data.toList).length := by
            have h1 := HTS.out
            rw [List.getElem?_eq_getElem (by rw [hTL]; exact hkT)] at h1
            have h2 := (List.getElem?_eq_some_iff.1 h1.symm).1
            rw [List.length_map] at h2; exact h2
          have hpo : (pts x.text.data.toList)[o]? = some (pts x.text.data.toList)[o] := List.getElem?_eq_getElem hor
          have HTS2 : Hid ((toksB (madeB l))[k]? = some (signT (headT x) (pts x.text.data.toList)[o])) := Lib.hid (by rw [HTS.out, List.getElem?_map, hpo]; rfl)
          obtain ⟨bt, ot, rfl, hbt, t0, t1, t2⟩ := HTO9.out.get HTS2.out
          have hxt := text_le_weigh x
          go_upto_region 18 with fail
          generalize w8.alloc (.cells #[.string x.kind, .string x.text, .slice E1 l1 e1, .slice E2 l2 e2, .slice E3 x.kids.length e3] 31) = w9 at *
          obtain ⟨cr, obj, hrun, hcr, hcell⟩ := run_runes w9 x.text (by omega)
          have hpl := pts_len x.text.data.toList
          have hpz := Lib.size_eq x.text
          have hpl2 : (pts x.text.data.toList).length ≤ 1000000 := by omega
          have hcl : ((w9.alloc obj).drew).cell? ⟨w9.heap.size, o, none⟩ = _ := hcell o _ hpo
          have hbo : Below w9.heap.size w9 (w9.alloc obj).drew := ((Below.refl _ _).alloc (Nat.le_refl _) _).drew
          have HB10 := Lib.hid (belowNext HB9.out hbo)
          have HS10 := Lib.hid ((hbo.block w5.heap.size (by have := HZ9.out; omega)).trans HS9.out)
          obtain ⟨z0, z1, z2, z3, z4⟩ := cells5 HN9.out
          generalize (pts x.text.data.toList)[o] = r at *
          generalize pts x.text.data.toList = ps at *
          clear hcell hpl hpz hT hx HTA HTS hpo s0 s1 s2 t0 t1 t2 hbo n0 n1 n2 n3 n4 r0 r1 r2 r3 r4
          go_upto_region 19 with fail
          generalize w9.heap.size = g9 at *
          generalize (w9.alloc obj).drew = w10 at *
          obtain ⟨bt', ot', hbt', hbu, t0, t1, t2⟩ := (HTO.out w10 HB10.out).get HTS2.out
          simp only [Option.some.injEq, Addr.mk.injEq, and_true] at hbt'
          obtain ⟨rfl, rfl⟩ := hbt'
          obtain ⟨s0, s1, s2⟩ := cells3 HS10.out
          simp only [signT] at t0 t1
          rw [encB_arr] at t1
          have hcv1 := fun c => run_piece w10 g9 o c r hcl
          have hcv2 := fun n c => run_piece (w10.drewN n) g9 o c r hcl
          have hn1 : IntKind.i64.wrap ((o : Int) + 1) = (o : Int) + 1 := IntWalk.i64_in _ (by omega)
          have hn2 : ((o : Int) + 1).toNat = o + 1 := by omega
          have hn3 : o + 1 ≤ cr := by omega
          have hn4 : o ≤ cr := by omega
          have hn5 : ¬ cr = o := by omega
          have hn6 : (0 : Int) ≤ (o : Int) + 1 := by omega
          have hn7 : (o : Int) + 1 ≤ (cr : Int) := by omega
          have hn8 : decide ((ps.length : Int) ≤ (o : Int)) = false := by rw [decide_eq_false_iff_not]; omega
          have hn9 : ¬ (ps.length : Int) ≤ (o : Int) := by omega
          clear hrun z0 z1 z2 z3 z4
          go_quiet (fail)
          go_wp2
          exact ⟨⟨k + 1, by omega, by go_num, by first | exact HB10.out.drew | exact HB10.out | exact HB10.out.trans ⟨rfl, rfl, rfl, Nat.le_refl _, fun _ _ => rfl⟩⟩, by simp [intOf]; omega⟩
        | false =>
          have hk' : (x.kind.toList == [116, 101, 120, 116]) = false := hT
          have HTS : Hid ((toksB (madeB l))[k]? = some (openT (headT x))) := Lib.hid (by rw [HTA.out, hx]; simp [tokAt, hT])
          have ho0 : o = 0 := by
            have h1 := HOK.out.there
            simp only [hx] at h1
            simpa [thereAt, hT] using h1
          subst ho0
          obtain ⟨bt, ot, rfl, hbt, t0, t1, t2⟩ := HTO9.out.get HTS.out
          obtain ⟨z0, z1, z2, z3, z4⟩ := cells5 HN9.out
          clear s0 s1 s2
          obtain ⟨s0, s1, s2⟩ := cells3 HS8.out
          obtain ⟨s5, s6, s7⟩ := cells3 HS9.out
          obtain ⟨hd, hhd⟩ : ∃ hd : ByteArray, headT x = hd := ⟨_, rfl⟩
          simp only [openT, hhd] at t0 t2
          go_upto_region 21 with fail
          generalize hW9 : w8.alloc (.cells #[.string x.kind, .string x.text, .slice E1 l1 e1, .slice E2 l2 e2, .slice E3 x.kids.length e3] 31) = w9 at *
          have HH := Lib.hid (regrown_any (w := w9) (f := 27) (args := #[.agg #[.string x.kind, .string x.text, .slice E1 l1 e1, .slice E2 l2 e2, .slice E3 x.kids.length e3]]) (v := .string hd) fun W hW => by rw [← hhd]; exact head_any _ x W ((HNX9.out.below hW).more hW.size) (by omega))
          have rt0 := cell_regrown t0
          have rt1 := cell_regrown t1
          have rt2 := cell_regrown t2
          have rz0 := cell_regrown z0
          have rz1 := cell_regrown z1
          have rz2 := cell_regrown z2
          have rz3 := cell_regrown z3
          have rz4 := cell_regrown z4
          have rs2 := cell_regrown s7
          clear t0 t1 t2 z0 z1 z2 z3 z4 s0 s1 s2 s5 s6 s7 n0 n1 n2 n3 n4 r0 r1 r2 r3 r4 hhd hT hx
          refine wp_region_quiet_below (by kernel_rfl) (by kernel_rfl) ?_
          repeat (first | go_big_quiet_step (first | exact HH.out _ _) | quiet_step (first | exact HH.out _ _))
          refine wpQuiet_nil ?_
          intro _ hw'
          obtain ⟨⟨dq, osq⟩, hw''⟩ := hw'
          subst hw''
          have HBQ := Lib.hid (belowNext HB9.out (below_regrown w9 dq osq))
          generalize grow (redrawn w9 dq) osq = wq at *
          clear rt0 rt1 rt2 rz0 rz1 rz2 rz3 rz4 rs2
          go_wp2
          exact ⟨⟨k + 1, by omega, by go_num, HBQ.out⟩, by simp [intOf]; omega⟩
    · have hke : k = totalB (madeB l) := by omega
      subst hke
      have hkT' : ¬ ((totalB (madeB l) : Nat) : Int) < ((totalB (madeB l) : Nat) : Int) := by omega
      go_wp2_with fail
      refine (HTT.out wr HB.out).mono ?_
      rintro e w5 ⟨rfl, hb5⟩
      have HBE := Lib.hid (belowNext (belowNext HEN.out HB.out) hb5)
      clear hb5
      go_wp2
      go_ret
      exact ⟨by simp, HBE.out⟩
end Go.Proofs.Ytpkkncfnjgbemaa
