/-
  The law's sameExpr: of one and the same expression it answers true.
-/
import Derived.Test.YtldmimekmjmkgaaDoorHa
namespace Go.Proofs.YtldmimekmjmkgaaDoor
open Go.RowKit Go.Sort Go.Maps Go.WideMaps

def SSaid (e : Ex) : Prop := ∀ (A A' : Option Addr) (n c n' c' B : Nat) (w : World), Exs w (Under B) (.slice A n c) e.kids → Exs w (Under B) (.slice A' n' c') e.kids → B ≤ w.heap.size →
  Calls Tryd.prog 21 #[.agg #[.int .u8 (e.op : Int), .string e.name, .slice A n c], .agg #[.int .u8 (e.op : Int), .string e.name, .slice A' n' c']] w fun x w' => x = .returned (.bool true) ∧ Below w.heap.size w w'
set_option maxRecDepth 100000 in
set_option maxHeartbeats 4000000 in
theorem same_walk : ∀ e, SSaid e := by
  intro e
  induction e using Ex.induct_one with
  | h o s l ih =>
    intro A1 A2 n1 c1 n2 c2 B w hl hl' hB
    have IH := Lib.hid ih
    clear ih
    simp only [Ex.op, Ex.name, Ex.kids] at *
    obtain ⟨Aa, ca, hv, hca, hma, _⟩ := id hl
    injection hv with hA hn hc'
    subst hA hn hc'
    obtain ⟨Ab, cb, hv, hcb, hmb, _⟩ := id hl'
    injection hv with hA hn hc'
    subst hA hn hc'
    unfold maxLen at hma hmb
    have HA := Lib.hid hl
    have HA2 := Lib.hid hl'
    have hz1 : (w.alloc (.cells #[.int .u8 (o : Int), .string s, .slice A1 l.length c1] 24)).heap.size = w.heap.size + 1 := by simp
    have HB0 : Hid (Below w.heap.size w ((w.alloc (.cells #[.int .u8 (o : Int), .string s, .slice A1 l.length c1] 24)).alloc (.cells #[.int .u8 (o : Int), .string s, .slice A2 l.length c2] 30))) := Lib.hid (((Below.refl _ _).alloc (Nat.le_refl _) _).alloc (by omega) _)
    have HN1 : Hid (((w.alloc (.cells #[.int .u8 (o : Int), .string s, .slice A1 l.length c1] 24)).alloc (.cells #[.int .u8 (o : Int), .string s, .slice A2 l.length c2] 30)).heap[w.heap.size]? = some (.cells #[.int .u8 (o : Int), .string s, .slice A1 l.length c1] 24)) := Lib.hid ((Below.heap_alloc _ _ _ (by omega)).trans (heap_new _ _))
    have HN2 : Hid (((w.alloc (.cells #[.int .u8 (o : Int), .string s, .slice A1 l.length c1] 24)).alloc (.cells #[.int .u8 (o : Int), .string s, .slice A2 l.length c2] 30)).heap[w.heap.size + 1]? = some (.cells #[.int .u8 (o : Int), .string s, .slice A2 l.length c2] 30)) := Lib.hid (heap_new' _ _ hz1)
    clear hl hl' hz1
    have hss : (s.toList == s.toList) = true := by simp
    go_enter Tryd.func21, Tryd.ntmps21
    go_wp2
    generalize (w.alloc (.cells #[.int .u8 (o : Int), .string s, .slice A1 l.length c1] 24)).alloc (.cells #[.int .u8 (o : Int), .string s, .slice A2 l.length c2] 30) = w1 at *
    go_loopg [5] l.length (fun g u wx => ∃ i : Nat, u = .int .i64 i ∧ i + g = l.length ∧ Hid (Below w1.heap.size w1 wx))
    case atStart => exact ⟨0, rfl, by omega, Lib.hid (Below.refl _ _)⟩
    case round =>
      obtain ⟨i, rfl, hig, HR⟩ := hrel
      have HR1 := Lib.hid ((HR.out.block _ (Array.getElem?_eq_some_iff.1 HN1.out).1).trans HN1.out)
      have HR2 := Lib.hid ((HR.out.block _ (Array.getElem?_eq_some_iff.1 HN2.out).1).trans HN2.out)
      have HBR : Hid (Below w.heap.size w wr) := Lib.hid (belowNext HB0.out HR.out)
      obtain ⟨d0, d1, d2⟩ := three_cells HR1.out
      obtain ⟨e0, e1, e2⟩ := three_cells HR2.out
      have hz1 := cell_lt d0
      have hz2 := cell_lt e0
      by_cases hi : i < l.length
      · have hlx : l[i]? = some l[i] := List.getElem?_eq_getElem hi
        generalize hx : l[i] = x at *
        have HAR : Hid (Exs wr (Under B) (.slice A1 l.length c1) l) := Lib.hid (HA.out.keep (fun _ h => h) fun b hb => HBR.out.block b (Nat.lt_of_lt_of_le hb hB))
        have HAR2 : Hid (Exs wr (Under B) (.slice A2 l.length c2) l) := Lib.hid (HA2.out.keep (fun _ h => h) fun b hb => HBR.out.block b (Nat.lt_of_lt_of_le hb hB))
        obtain ⟨b, off, rfl, hb, hat⟩ := HAR.out.get hlx
        obtain ⟨v3, f0, f1, f2, exk⟩ := (exAt_iff x b _).1 hat
        obtain ⟨A3, c3, rfl, _⟩ := id exk
        obtain ⟨b', off', rfl, hb', hat'⟩ := HAR2.out.get hlx
        obtain ⟨v4, g0, g1, g2, exk'⟩ := (exAt_iff x b' _).1 hat'
        obtain ⟨A4, c4, rfl, _⟩ := id exk'
        have hl3 := cell_lt f0
        have hl4 := cell_lt g0
        have HEK := Lib.hid exk
        have HEK2 := Lib.hid exk'
        have HMEM := Lib.hid (List.mem_of_getElem? hlx)
        have HC := Lib.hid (regrown_any (w := wr) fun W hW => IH.out x HMEM.out A3 A4 _ c3 _ c4 B W (HEK.out.keep (fun _ h => h) fun k hk => hW.block k (Nat.lt_of_lt_of_le hk (Nat.le_trans hB HBR.out.size))) (HEK2.out.keep (fun _ h => h) fun k hk => hW.block k (Nat.lt_of_lt_of_le hk (Nat.le_trans hB HBR.out.size))) (Nat.le_trans hB (Nat.le_trans HBR.out.size hW.size)))
        obtain ⟨g, rfl⟩ : ∃ g, gk = g + 1 := ⟨gk - 1, by omega⟩
        clear exk exk' hx hlx hat hat' hb hb'
        go_wp2
        have k0 := cell_regrown d0
        have k1 := cell_regrown d1
        have k2 := cell_regrown d2
        have j0 := cell_regrown e0
        have j1 := cell_regrown e1
        have j2 := cell_regrown e2
        have m0 := cell_regrown f0
        have m1 := cell_regrown f1
        have m2 := cell_regrown f2
        have n0 := cell_regrown g0
        have n1 := cell_regrown g1
        have n2 := cell_regrown g2
        refine wp_region_quiet_below (by kernel_rfl) (by kernel_rfl) ?_
        repeat (first | go_big_quiet_step (with_reducible exact HC.out _ _) | quiet_step (with_reducible exact HC.out _ _))
        refine wpQuiet_nil ?_
        intro _ hw'
        obtain ⟨⟨dq, osq⟩, hw''⟩ := hw'
        subst hw''
        have HRN : Hid (Below w1.heap.size w1 (grow (redrawn wr dq) osq)) := Lib.hid (belowNext HR.out (below_regrown wr dq osq))
        clear k0 k1 k2 j0 j1 j2 m0 m1 m2 n0 n1 n2 d0 d1 d2 e0 e1 e2 f0 f1 f2 g0 g1 g2
        generalize grow (redrawn wr dq) osq = wn at *
        go_wp2
        go_roundg g
        case measure => omega
        case rel => exact ⟨i + 1, by go_num, by omega, HRN⟩
      · go_wp2
        go_ret
        exact ⟨rfl, HBR.out⟩
end Go.Proofs.YtldmimekmjmkgaaDoor
