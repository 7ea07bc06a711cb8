/-
  TokenJoins walked.
  TokenBack walked.
-/
import Derived.Test.YtaepolgmojkglaaDoorMG
import Derived.Test.YtaepolgmojkglaaDoorMH
namespace Go.Proofs.YtaepolgmojkglaaDoor
open Go.RowKit Go.Sort Go.Maps

theorem slim_bound {l : List Tok} (h : ∀ t ∈ l, Slim t) : ∀ t ∈ l, t.text.size ≤ 1000 ∧ t.head.size ≤ 5000 := fun t ht => by obtain ⟨h1, h2⟩ := h t ht; omega
theorem slim_tokW : ∀ l : List Tok, (∀ t ∈ l, Slim t) → tokW l ≤ 91 * l.length
  | [], _ => by simp [tokW]
  | t :: l, h => by
    have h1 := slim_tokW l fun x hx => h x (by simp [hx])
    obtain ⟨h2, h3⟩ := h t (by simp)
    rw [tokW_cons, List.length_cons]; omega
theorem sameN_self : ∀ l : List Tok, sameN l l = l.length
  | [] => rfl
  | t :: l => by rw [sameN, if_pos rfl, sameN_self l, List.length_cons]
theorem backN_self (l : List Tok) : backN l l = 0 := by unfold backN; rw [sameN_self l]; omega
/-- What is made grows: its tokens, by twenty cells at most. -/
theorem toks_keep {w w' : World} {v : Value} {l : List Tok} (h : Toks w (Under w.heap.size) v l) (hb : Below w.heap.size w w') : Toks w' (Under w'.heap.size) v l := h.keep (fun _ hk => Nat.lt_of_lt_of_le hk hb.size) (fun b hk => hb.block b hk)
theorem kids_keep {w w' : World} {v : Value} {l : List Tree} (h : Kids w (Under w.heap.size) v l) (hb : Below w.heap.size w w') : Kids w' (Under w'.heap.size) v l := h.keep (fun _ hk => Nat.lt_of_lt_of_le hk hb.size) (fun b hk => hb.block b hk)
theorem kids_from {w : World} {B : Nat} {v : Value} {l : List Tree} (h : Kids w (From B w.heap.size) v l) : Kids w (Under w.heap.size) v l := h.keep (fun _ hk => hk.2) (fun _ _ => rfl)
theorem toks_from' {w : World} {B : Nat} {v : Value} {l : List Tok} (h : Toks w (From B w.heap.size) v l) : Toks w (Under w.heap.size) v l := h.keep (fun _ hk => hk.2) (fun _ _ => rfl)

set_option maxHeartbeats 8000000 in
set_option maxRecDepth 100000 in
theorem tokenJoins_walk (va vb : Value) (a b : List Cel) (w : World) (ha : Cels w (Under w.heap.size) va a) (hb : Cels w (Under w.heap.size) vb b) (hT : Tabs w) :
    Calls Tryd.prog 4 #[va, vb] w fun e w' => e = .returned (.bool true) ∧ Below w.heap.size w w' := by
  have HA := Lib.hid ha
  have HB := Lib.hid hb
  have HT := Lib.hid hT
  clear ha hb hT
  go_enter Tryd.func4, Tryd.ntmps4
  go_wp2_with fail
  refine (shown3_any _).mono ?_
  rintro e w1 ⟨rfl, hb1⟩
  have HB1 := Lib.hid hb1
  clear hb1
  go_wp2_with fail
  refine (made_any _ a w1 ((HA.out.below HB1.out).more HB1.out.size)).mono ?_
  rintro e w2 ⟨v2, rfl, hk2, hb2⟩
  have HB2 := Lib.hid (belowNext HB1.out hb2)
  have HX2 := Lib.hid (kids_from hk2)
  obtain ⟨A2, c2, rfl, _⟩ := hk2.form
  clear hk2 hb2
  go_wp2_with fail
  refine (made_any _ b w2 ((HB.out.below HB2.out).more HB2.out.size)).mono ?_
  rintro e w3 ⟨v3, rfl, hk3, hb3⟩
  have HB3 := Lib.hid (belowNext HB2.out hb3)
  have HX3 := Lib.hid (kids_keep HX2.out hb3)
  have HY3 := Lib.hid (kids_from hk3)
  obtain ⟨A3, c3, rfl, _⟩ := hk3.form
  clear hk3 hb3 HX2
  have HFX : Hid (∀ z ∈ madeB a ++ madeB b, formedB z = true) := Lib.hid fun z hz => (List.mem_append.1 hz).elim (fun h => rowFormed (madeB_ok a) z h) (fun h => rowFormed (madeB_ok b) z h)
  have HSX : Hid (∀ t ∈ toksB (madeB a), Slim t) := Lib.hid (made_slim a)
  have HSY : Hid (∀ t ∈ toksB (madeB b), Slim t) := Lib.hid (made_slim b)
  have HWX : Hid (weighAll (madeB a) ≤ 760 ∧ deepB (madeB a) ≤ 19 ∧ totalB (madeB a) ≤ 57 ∧ (toksB (madeB a)).length ≤ 57) := Lib.hid ⟨madeB_weigh a, madeB_deep a, made_count a, made_toks a⟩
  have HWY : Hid (weighAll (madeB b) ≤ 760 ∧ deepB (madeB b) ≤ 19 ∧ totalB (madeB b) ≤ 57 ∧ (toksB (madeB b)).length ≤ 57) := Lib.hid ⟨madeB_weigh b, madeB_deep b, made_count b, made_toks b⟩
  generalize madeB a = x at *
  generalize madeB b = y at *
  have HLX : Hid (x.length ≤ 760) := Lib.hid (by have := length_le_weigh x; have := HWX.out; omega)
  have HLY : Hid (y.length ≤ 760) := Lib.hid (by have := length_le_weigh y; have := HWY.out; omega)
  have HBZ : Hid (Below w3.heap.size w3 (w3.alloc (.cells #[] 47))) := Lib.hid ((Below.refl _ _).alloc (Nat.le_refl _) _)
  have HE : Hid (Own (w3.alloc (.cells #[] 47)) w3.heap.size (Under w3.heap.size) (.slice (some ⟨w3.heap.size, 0, none⟩) 0 0) []) := Lib.hid (own_empty (heap_new _ _) (Nat.le_refl _))
  have HS1 : Hid (Src (w3.alloc (.cells #[] 47)) (Under w3.heap.size) (.slice A2 x.length c2) x) := Lib.hid (HX3.out.keep (fun _ h => h) (fun i h => HBZ.out.block i h)).src
  have HU1 : Hid (∀ i, Under w3.heap.size i → i < (w3.alloc (.cells #[] 47)).heap.size ∧ some i ≠ (Value.slice (some ⟨w3.heap.size, 0, none⟩) 0 0).ownBlock) := Lib.hid fun i hi => ⟨Nat.lt_of_lt_of_le hi HBZ.out.size, fun e => absurd (Option.some.inj e) (Nat.ne_of_lt hi)⟩
  have HL1 : Hid (([] : List Tree).length + x.length ≤ 1000000) := Lib.hid (by have := HLX.out; simp only [List.length_nil]; omega)
  have HL2 : Hid (([] ++ x : List Tree).length + y.length ≤ 1000000) := Lib.hid (by have := HLX.out; have := HLY.out; simp only [List.nil_append]; omega)
  go_wp2_with (first
    | (at_builtin; refine wpList_append_nodes rfl (.tmp 20) (.tmp 21) rfl w3.heap.size (Under w3.heap.size) _ _ [] x rfl rfl HE.out HS1.out HU1.out HL1.out HBZ.out.size ?_; intro v4 w4 ho4 hg4 _; have HO4 := Lib.hid ho4; have HG4 := Lib.hid (HBZ.out.trans ((Below.refl _ _).grown hg4 HBZ.out.size fun k hk => Nat.le_of_eq (Option.some.inj hk))); clear ho4 hg4)
    | (at_builtin; refine wpList_append_nodes rfl (.tmp 22) (.tmp 23) rfl w3.heap.size (Under w3.heap.size) _ _ ([] ++ x) y rfl rfl HO4.out (HY3.out.keep (fun _ h => h) (fun i h => HG4.out.block i h)).src (fun i hi => ⟨Nat.lt_of_lt_of_le hi HG4.out.size, fun e => by have := HO4.out.block_ge i e.symm; unfold Under at hi; omega⟩) HL2.out HG4.out.size ?_; intro v5 w5 ho5 hg5 _; have HO5 := Lib.hid ho5; have HG5 := Lib.hid (HG4.out.trans ((Below.refl _ _).grown hg5 HG4.out.size fun k hk => (HO4.out.block_ge k hk).1)); clear ho5 hg5))
  have HK5 : Hid (Kids w5 (Under w5.heap.size) v5 (x ++ y)) := Lib.hid (by have h := HO5.out.kids (S' := Under w5.heap.size) (fun i hi => Nat.lt_of_lt_of_le hi HG5.out.size) (fun g hg => (HO5.out.block_ge g hg).2); rwa [List.nil_append] at h)
  have HX5 := Lib.hid (kids_keep HX3.out HG5.out)
  have HY5 := Lib.hid (kids_keep HY3.out HG5.out)
  have HB5 := Lib.hid (belowNext HB3.out HG5.out)
  have HWB : Hid (weighAll (x ++ y) ≤ 1520) := Lib.hid (by rw [weighAll_append]; have := HWX.out; have := HWY.out; omega)
  have HTA : Hid (toksB x ++ toksB y = toksB (x ++ y)) := Lib.hid (toksB_append x y).symm
  have HDB : Hid (deepB (x ++ y) ≤ 39 ∧ totalB (x ++ y) ≤ 3998) := Lib.hid (by rw [deepB_append, totalB_append]; have := HWX.out; have := HWY.out; omega)
  have HSB : Hid (∀ t ∈ toksB (x ++ y), Slim t) := Lib.hid fun t ht => by rw [← HTA.out] at ht; exact (List.mem_append.1 ht).elim (HSX.out t) (HSY.out t)
  have HLB : Hid ((toksB (x ++ y)).length ≤ 114) := Lib.hid (by rw [← HTA.out, List.length_append]; have := HWX.out; have := HWY.out; omega)
  have HBD : Hid (buildB (toksB (x ++ y)) = (joinB (x ++ y), 0)) := Lib.hid (build_joined HFX.out HDB.out.1 HDB.out.2)
  have HJW : Hid (weighAll (joinB (x ++ y)) ≤ 1520) := Lib.hid (Nat.le_trans (joinB_weigh _) HWB.out)
  clear HBZ HE HS1 HU1 HL1 HL2 HO4 HG4 HO5 HG5 HX3 HY3 HDB HFX HSX HSY
  generalize x ++ y = z at *
  generalize hj : joinB z = j at *
  generalize htz : toksB z = t at *
  have HJ := Lib.hid hj
  have HTZ := Lib.hid htz
  clear hj htz
  obtain ⟨A5, c5, rfl, _⟩ := HK5.out.form
  refine (of_some _ z w5 HK5.out (by have := HWB.out; omega)).mono ?_
  rintro e w6 ⟨v6, rfl, ht6, hb6, hn6⟩
  have HB6 := Lib.hid (belowNext HB5.out hb6)
  rw [HTZ.out] at ht6
  have HT6 := Lib.hid (toks_from' ht6.toks)
  have HX6 := Lib.hid (kids_keep HX5.out hb6)
  have HY6 := Lib.hid (kids_keep HY5.out hb6)
  have HK6 := Lib.hid (kids_keep HK5.out hb6)
  obtain ⟨A6, c6, rfl, _⟩ := HT6.out.form
  clear ht6 hb6 hn6 HX5 HY5 HK5
  go_wp2_with fail
  refine (of_some _ x w6 HX6.out (by have := HWX.out; omega)).mono ?_
  rintro e w7 ⟨v7, rfl, ht7, hb7, hn7⟩
  have HB7 := Lib.hid (belowNext HB6.out hb7)
  have HR7 := Lib.hid ht7
  have HY7 := Lib.hid (kids_keep HY6.out hb7)
  have H67 := Lib.hid hb7
  obtain ⟨A7, m7, c7, rfl⟩ := ownsRow_form ht7
  clear ht7 hb7 hn7 HX6 HY6
  go_wp2_with fail
  refine (of_some _ y w7 HY7.out (by have := HWY.out; omega)).mono ?_
  rintro e w8 ⟨v8, rfl, ht8, hb8, hn8⟩
  have HB8 := Lib.hid (belowNext HB7.out hb8)
  have HR8 := Lib.hid (show TRow w8 w6.heap.size (.slice A7 m7 c7) (toksB x) from ownsRow_keep HR7.out fun g hg => hb8.block g (by obtain ⟨_, cur, hc⟩ := HR7.out.block hg; exact heap_lt hc))
  have HS8 := Lib.hid (toks_from' ht8.toks)
  have H68 := Lib.hid (belowNext H67.out hb8)
  have HZ8 := Lib.hid H68.out.size
  have HLL : Hid ((toksB x).length + (toksB y).length ≤ 1000000) := Lib.hid (by have := HWX.out; have := HWY.out; omega)
  obtain ⟨A8, c8, rfl, _⟩ := HS8.out.form
  clear ht8 hb8 hn8 HR7 HY7 H67
  go_wp2_with (at_builtin; refine wpList_append_toks rfl (.tmp 29) (.tmp 31) rfl w6.heap.size (Under w8.heap.size) _ _ (toksB x) (toksB y) rfl rfl HR8.out HS8.out HLL.out HZ8.out ?_; intro v9 w9 ht9 hg9; have HT9 := Lib.hid ht9; have HG9 := Lib.hid ((Below.refl w6.heap.size w8).grown hg9 HZ8.out fun k hk => (HR8.out.block hk).1); clear ht9 hg9)
  have H69 := Lib.hid (H68.out.trans HG9.out)
  have HB9 := Lib.hid (belowNext HB6.out H69.out)
  rw [HTA.out] at HT9
  have HU9 := Lib.hid (toks_from' HT9.out.toks)
  have HT9' := Lib.hid (toks_keep HT6.out H69.out)
  have HK9 := Lib.hid (kids_keep HK6.out H69.out)
  obtain ⟨A9, c9, rfl, _⟩ := HU9.out.form
  clear HT9 HG9 HR8 HS8 HLL HZ8 HB8 HB7 H68 HT6 HK6 H69
  refine (tbuild_any _ _ w9 HT9'.out (by have := HLB.out; omega) (slim_bound HSB.out) (by have := slim_tokW _ HSB.out; have := HLB.out; omega) (HT.out.below HB9.out)).mono ?_
  rintro e w10 ⟨v10, rfl, hk10, hb10⟩
  rw [HBD.out] at hk10 ⊢
  have HB10 := Lib.hid (belowNext HB9.out hb10)
  have HQ10 := Lib.hid (kids_from hk10)
  have HT10 := Lib.hid (toks_keep HT9'.out hb10)
  have HU10 := Lib.hid (toks_keep HU9.out hb10)
  have HK10 := Lib.hid (kids_keep HK9.out hb10)
  obtain ⟨A10, c10, rfl, _⟩ := hk10.form
  clear hk10 hb10 HT9' HU9 HK9 HB9 HBD
  go_wp2_with fail
  refine (as_any _ _ w10 HU10.out (by have := HLB.out; omega)).mono ?_
  rintro e w11 ⟨v11, rfl, hv11, hb11⟩
  have HB11 := Lib.hid (belowNext HB10.out hb11)
  have HV11 := Lib.hid (toks_from' hv11)
  have HT11 := Lib.hid (toks_keep HT10.out hb11)
  have HU11 := Lib.hid (toks_keep HU10.out hb11)
  have HK11 := Lib.hid (kids_keep HK10.out hb11)
  have HQ11 := Lib.hid (kids_keep HQ10.out hb11)
  obtain ⟨A11, c11, rfl, _⟩ := hv11.form
  clear hv11 hb11 HT10 HU10 HK10 HQ10 HB10
  go_wp2_with fail
  refine (same3_any _ _ _ _ w11 HT11.out HV11.out (by have := HLB.out; omega) (by have := HLB.out; omega)).mono ?_
  rintro e w12 ⟨rfl, hb12⟩
  rw [decide_eq_true rfl]
  have HB12 := Lib.hid (belowNext HB11.out hb12)
  have HT12 := Lib.hid (toks_keep HT11.out hb12)
  have HU12 := Lib.hid (toks_keep HU11.out hb12)
  have HK12 := Lib.hid (kids_keep HK11.out hb12)
  have HQ12 := Lib.hid (kids_keep HQ11.out hb12)
  clear hb12 HT11 HU11 HK11 HQ11 HB11 HV11
  go_wp2_with fail
  refine (join_any _ z w12 HK12.out (by have := HWB.out; omega)).mono ?_
  rintro e w13 ⟨v13, rfl, hk13, hb13⟩
  have HB13 := Lib.hid (belowNext HB12.out hb13)
  have HT13 := Lib.hid (toks_keep HT12.out hb13)
  have HU13 := Lib.hid (toks_keep HU12.out hb13)
  have HQ13 := Lib.hid (kids_keep HQ12.out hb13)
  rw [HJ.out] at hk13
  have HJ13 := Lib.hid hk13
  obtain ⟨A13, c13, rfl, _⟩ := hk13.form
  clear hk13 hb13 HT12 HU12 HK12 HQ12 HB12
  go_wp2_with fail
  refine (sameAll_any _ _ _ w13 HQ13.out HJ13.out (by have := HJW.out; omega)).mono ?_
  rintro e w14 ⟨rfl, hb14⟩
  have HB14 := Lib.hid (belowNext HB13.out hb14)
  have HT14 := Lib.hid (toks_keep HT13.out hb14)
  have HU14 := Lib.hid (toks_keep HU13.out hb14)
  clear hb14 HT13 HU13 HQ13 HJ13 HB13
  go_wp2_with fail
  refine (tsame_any _ _ _ _ w14 HT14.out HU14.out (by have := HLB.out; omega) (by have := HLB.out; omega)).mono ?_
  rintro e w15 ⟨rfl, hb15⟩
  have HB15 := Lib.hid (belowNext HB14.out hb15)
  have HT15 := Lib.hid (toks_keep HT14.out hb15)
  have HU15 := Lib.hid (toks_keep HU14.out hb15)
  rw [sameN_self]
  clear hb15 HT14 HU14 HB14
  go_wp2_with fail
  refine (tback_any _ _ _ _ w15 HT15.out HU15.out (by have := HLB.out; omega) (by have := HLB.out; omega)).mono ?_
  rintro e w16 ⟨rfl, hb16⟩
  have HB16 := Lib.hid (belowNext HB15.out hb16)
  rw [backN_self]
  clear hb16
  go_wp2
  go_ret
  exact ⟨rfl, HB16.out⟩
end Go.Proofs.YtaepolgmojkglaaDoor

namespace Go.Proofs.YtaepolgmojkglaaDoor
open Go.RowKit Go.Sort Go.Maps

theorem levT_snoc (l : List Tok) (t : Tok) : levT (l ++ [t]) = levT l + (if t.kind = 111 then 1 else if t.kind = 99 then -1 else 0) := by rw [levT_app]; simp [levT]
theorem levT_bound : ∀ l : List Tok, -(l.length : Int) ≤ levT l ∧ levT l ≤ (l.length : Int)
  | [] => by simp [levT]
  | t :: l => by
    have h := levT_bound l
    rw [levT, List.length_cons]
    split
    · omega
    · split <;> omega
theorem lev_take_bound (l : List Tok) (k : Nat) : -(l.length : Int) ≤ levT (l.take k) ∧ levT (l.take k) ≤ (l.length : Int) := by
  have h := levT_bound (l.take k)
  have h2 : (l.take k).length ≤ l.length := by rw [List.length_take]; omega
  omega
theorem slim_take {l : List Tok} (h : ∀ t ∈ l, Slim t) (n : Nat) : ∀ t ∈ l.take n, Slim t := fun t ht => h t (List.mem_of_mem_take ht)

set_option maxHeartbeats 8000000 in
set_option maxRecDepth 100000 in
theorem tokenBack_walk (va : Value) (a : List Cel) (at' : Int) (w : World) (ha : Cels w (Under w.heap.size) va a) (h0 : -9223372036854775808 ≤ at') (h1 : at' ≤ 9223372036854775807) (hT : Tabs w) :
    Calls Tryd.prog 3 #[va, .int .i64 at'] w fun e w' => e = .returned (.bool true) ∧ Below w.heap.size w w' := by
  have HA := Lib.hid ha
  have HT := Lib.hid hT
  clear ha hT
  go_enter Tryd.func3, Tryd.ntmps3
  go_wp2_with fail
  refine (shown3_any _).mono ?_
  rintro e w1 ⟨rfl, hb1⟩
  have HB1 := Lib.hid hb1
  clear hb1
  go_wp2_with fail
  refine (made_any _ a w1 ((HA.out.below HB1.out).more HB1.out.size)).mono ?_
  rintro e w2 ⟨v2, rfl, hk2, hb2⟩
  have HB2 := Lib.hid (belowNext HB1.out hb2)
  have HX2 := Lib.hid (kids_from hk2)
  have HRX : Hid (rowB none (madeB a) = true) := Lib.hid (madeB_ok a)
  have HSX : Hid (∀ t ∈ toksB (madeB a), Slim t) := Lib.hid (made_slim a)
  have HWX : Hid (weighAll (madeB a) ≤ 760 ∧ deepB (madeB a) ≤ 19 ∧ totalB (madeB a) ≤ 57 ∧ (toksB (madeB a)).length ≤ 57) := Lib.hid ⟨madeB_weigh a, madeB_deep a, made_count a, made_toks a⟩
  clear hk2 hb2
  generalize madeB a = x at *
  have HBD : Hid (buildB (toksB x) = (x, 0)) := Lib.hid (build_back HRX.out (by have := HWX.out; omega) (by have := HWX.out; omega))
  have HTK : Hid (∀ n, n ≤ (toksB x).length → _) := Lib.hid fun n hn => build_take HRX.out (by have := HWX.out; omega) (by have := HWX.out; omega) (n := n) (by rw [toksB_len] at hn; exact hn)
  generalize htz : toksB x = t at *
  have HTZ := Lib.hid htz
  clear htz
  obtain ⟨A2, c2, rfl, _⟩ := HX2.out.form
  go_wp2_with fail
  refine (of_some _ x w2 HX2.out (by have := HWX.out; omega)).mono ?_
  rintro e w3 ⟨v3, rfl, ht3, hb3, hn3⟩
  rw [HTZ.out] at ht3
  have HB3 := Lib.hid (belowNext HB2.out hb3)
  have HT3 := Lib.hid (toks_from' ht3.toks)
  have HX3 := Lib.hid (kids_keep HX2.out hb3)
  obtain ⟨g3, c3, rfl, hc3⟩ := ht3.some hn3
  clear ht3 hb3 hn3 HX2
  go_wp2_with fail
  refine (tbuild_any _ t w3 HT3.out (by have := HWX.out; omega) (slim_bound HSX.out) (by have := slim_tokW _ HSX.out; have := HWX.out; omega) (HT.out.below HB3.out)).mono ?_
  rintro e w4 ⟨v4, rfl, hk4, hb4⟩
  rw [HBD.out] at hk4 ⊢
  have HB4 := Lib.hid (belowNext HB3.out hb4)
  have HQ4 := Lib.hid (kids_from hk4)
  have HT4 := Lib.hid (toks_keep HT3.out hb4)
  have HX4 := Lib.hid (kids_keep HX3.out hb4)
  obtain ⟨A4, c4, rfl, _⟩ := hk4.form
  clear hk4 hb4 HT3 HX3 HBD
  go_wp2_with fail
  refine (sameAll_any _ _ x w4 HQ4.out HX4.out (by have := HWX.out; omega)).mono ?_
  rintro e w5 ⟨rfl, hb5⟩
  have HB5 := Lib.hid (belowNext HB4.out hb5)
  have HT5 := Lib.hid (toks_keep HT4.out hb5)
  have hlt : t.length ≤ 57 := HWX.out.2.2.2
  clear hb5 HT4 HX4 HQ4
  go_wp2_with fail
  refine (pick_any at' ((t.length : Int) + 1) w5 (by omega) (by omega) h0 h1).mono ?_
  rintro e w5' ⟨rfl, rfl⟩
  have hlo := pickN_lo at' ((t.length : Int) + 1) (by omega)
  have hhi := pickN_hi at' ((t.length : Int) + 1) (by omega)
  obtain ⟨m, hm⟩ : ∃ m : Nat, pickN at' ((t.length : Int) + 1) = (m : Int) := ⟨_, (Int.toNat_of_nonneg hlo).symm⟩
  rw [hm] at hlo hhi ⊢
  have hmt : m ≤ t.length := by omega
  clear hm hlo hhi
  have HTM := Lib.hid (HTK.out m hmt)
  clear HTK
  go_wp2
  go_loopw [11, 12] (fun op i wr => ∃ k : Nat, k ≤ m ∧ i = .int .i64 k ∧ op = .int .i64 (levT (t.take k)) ∧ w5 = wr) (fun _ i _ => m - (intOf i).toNat)
  case atStart => exact ⟨0, by omega, rfl, by simp [levT], rfl⟩
  case round =>
    obtain ⟨k, hk, rfl, rfl, rfl⟩ := hrel
    by_cases hlk : k < m
    · have hkt : k < t.length := by omega
      have hax : t[k]? = some t[k] := List.getElem?_eq_getElem hkt
      have HTS : Hid (t.take (k + 1) = t.take k ++ [t[k]]) := Lib.hid (List.take_succ_eq_append_getElem hkt)
      generalize t[k] = z at *
      have hlb := lev_take_bound t k
      have HLN : Hid (levT (t.take (k + 1)) = levT (t.take k) + (if z.kind = 111 then 1 else if z.kind = 99 then -1 else 0)) := Lib.hid (by rw [HTS.out, levT_snoc])
      obtain ⟨b, o, he, hu, x0, x1, x2⟩ := HT5.out.get hax
      injection he with he; injection he with he1 he2; subst he1; subst he2
      rw [Nat.zero_add] at x0 x1 x2
      generalize levT (t.take k) = lv at *
      have hlb2 : -57 ≤ lv ∧ lv ≤ 57 := by omega
      obtain ⟨hl1, hl2⟩ := hlb2
      clear hax hlb
      by_cases k111 : z.kind = 111
      · rw [k111] at x0 HLN
        rw [if_pos rfl] at HLN
        clear k111
        go_wp2
        exact ⟨⟨k + 1, by omega, by go_num, by rw [HLN.out] <;> go_num, by trivial⟩, by simp [intOf]; omega⟩
      · rw [if_neg k111] at HLN
        have d111 : ¬ (z.kind : Int) = 111 := by omega
        by_cases k99 : z.kind = 99
        · rw [k99] at x0 HLN
          rw [if_pos rfl] at HLN
          clear k99 k111 d111
          go_wp2
          exact ⟨⟨k + 1, by omega, by go_num, by rw [HLN.out] <;> go_num, by trivial⟩, by simp [intOf]; omega⟩
        · rw [if_neg k99] at HLN
          have d99 : ¬ (z.kind : Int) = 99 := by omega
          clear k99 k111
          go_wp2
          exact ⟨⟨k + 1, by omega, by go_num, by rw [HLN.out, Int.add_zero], by trivial⟩, by simp [intOf]; omega⟩
    · obtain rfl : k = m := by omega
      have hmc : k ≤ c3 := by omega
      have HTP : Hid (Toks w5 (Under w5.heap.size) (.slice (some ⟨g3, 0, none⟩) k c3) (t.take k)) := Lib.hid (by
        have h := HT5.out.part 0 k (by omega) (A' := some ⟨g3, 0, none⟩) (d := c3) (by omega) (Nat.le_refl _) (.inr ⟨g3, 0, rfl, by simp⟩)
        simpa using h)
      have HSK := Lib.hid (slim_take HSX.out k)
      have HLT : Hid ((t.take k).length ≤ 57) := Lib.hid (by rw [List.length_take]; omega)
      rcases HTM.out with ⟨hpos, hbd⟩ | ⟨hz, C, hrC, hbd, htC, htkC, hwC⟩
      · have HBD := Lib.hid hbd
        generalize levT (t.take k) = lv at *
        clear hbd
        go_wp2_with fail
        refine (tbuild_any _ (t.take k) w5 HTP.out (by have := HLT.out; omega) (slim_bound (slim_take HSX.out k)) (by have := slim_tokW _ (slim_take HSX.out k); have := HLT.out; omega) (HT.out.below HB5.out)).mono ?_
        rintro e w6 ⟨v6, rfl, hk6, hb6⟩
        rw [HBD.out] at hk6 ⊢
        have HB6 := Lib.hid (belowNext HB5.out hb6)
        obtain ⟨A6, c6, rfl, _⟩ := hk6.form
        clear hk6 hb6
        go_wp2
        go_ret
        exact ⟨rfl, HB6.out⟩
      · generalize t.take k = tk at *
        have HBD := Lib.hid hbd
        have HWC : Hid (weighAll C ≤ 760) := Lib.hid (Nat.le_trans hwC HWX.out.1)
        have HTKC := Lib.hid htkC
        have HTC := Lib.hid htC
        rw [hz]
        clear hbd htkC htC hwC hrC hz
        go_wp2_with fail
        refine (tbuild_any _ tk w5 HTP.out (by have := HLT.out; omega) (slim_bound HSK.out) (by have := slim_tokW _ HSK.out; have := HLT.out; omega) (HT.out.below HB5.out)).mono ?_
        rintro e w6 ⟨v6, rfl, hk6, hb6⟩
        rw [HBD.out] at hk6 ⊢
        have HB6 := Lib.hid (belowNext HB5.out hb6)
        have HC6 := Lib.hid (kids_from hk6)
        have HT6 := Lib.hid (toks_keep HT5.out hb6)
        have HP6 := Lib.hid (toks_keep HTP.out hb6)
        obtain ⟨A6, c6, rfl, _⟩ := hk6.form
        clear hk6 hb6 HTP HBD
        have D0 : Hid (Below w6.heap.size w6 w6.drew) := Lib.hid (Below.refl w6.heap.size w6).drew
        have h5 : Hid (Below w6.heap.size w6 w6) := Lib.hid (Below.refl _ _)
        go_wp2_with fail
        go_region_with (first
          | (go_at_call 12; refine (total_any _ C _ (kids_keep HC6.out (by first | exact D0.out | exact h5.out)) (by have := HWC.out; omega)).mono ?_; rintro e w7 ⟨rfl, hb7⟩; rw [HTC.out]; have H7 := Lib.hid (D0.out.trans (hb7.mono (Nat.le_refl _))); clear hb7)
          | (go_at_call 8; refine (of_some _ C _ (kids_keep HC6.out (by first | exact H9.out | exact H7.out)) (by have := HWC.out; omega)).mono ?_; rintro e w8 ⟨v8, rfl, ht8, hb8, hn8⟩; rw [HTKC.out] at ht8; have HO8 := Lib.hid (toks_from' ht8.toks); have hk8 := ht8.toks; obtain ⟨A8, c8, rfl, _⟩ := hk8.form; have H8 := Lib.hid (show Below w6.heap.size w6 w8 from by first | exact H9.out.trans (hb8.mono H9.out.size) | exact H7.out.trans (hb8.mono H7.out.size)); have HBB8 := Lib.hid hb8; clear ht8 hk8 hb8 hn8)
          | (go_at_call 14; refine (as_any _ tk _ (toks_keep HP6.out (by first | exact H8.out | exact H7.out)) (by have := HLT.out; omega)).mono ?_; rintro e w9 ⟨v9, rfl, ht9, hb9⟩; have HA9 := Lib.hid (toks_from' ht9); obtain ⟨A9, c9, rfl, _⟩ := ht9.form; have H9 := Lib.hid (show Below w6.heap.size w6 w9 from by first | exact H8.out.trans (hb9.mono H8.out.size) | exact H7.out.trans (hb9.mono H7.out.size)); have HBB9 := Lib.hid hb9; clear ht9 hb9)
          | (go_at_call 13; refine (same3_any _ _ tk tk _ (by first | exact toks_keep HO8.out HBB9.out | exact HO8.out) (by first | exact toks_keep HA9.out HBB8.out | exact HA9.out) (by have := HLT.out; omega) (by have := HLT.out; omega)).mono ?_; rintro e w10 ⟨rfl, hb10⟩; rw [decide_eq_true rfl]; have HB10 := Lib.hid (show Below w.heap.size w w10 from by first | exact belowNext HB6.out (H9.out.trans (hb10.mono H9.out.size)) | exact belowNext HB6.out (H8.out.trans (hb10.mono H8.out.size))); clear hb10))
        all_goals
          go_wp2
          go_ret
          exact ⟨rfl, HB10.out⟩
end Go.Proofs.YtaepolgmojkglaaDoor
