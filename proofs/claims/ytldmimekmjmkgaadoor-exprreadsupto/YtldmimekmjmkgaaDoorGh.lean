/-
  light: whether an expression can be gone through (any answer serves: what is asked behind it holds of all).
-/
import Derived.Test.YtldmimekmjmkgaaDoorGg
namespace Go.Proofs.YtldmimekmjmkgaaDoor
open Go.RowKit Go.Sort Go.Maps Go.WideMaps

def LightPost (w : World) (x : Ending) (w' : World) : Prop := (∃ r : Int, x = .returned (.int .i64 r) ∧ -1000000000000000000 ≤ r ∧ r ≤ 1000) ∧ Below w.heap.size w w'
def LSaid (e : Ex) : Prop := ∀ (A : Option Addr) (n c B : Nat) (m : Int) (w : World), e.fits → Exs w (Under B) (.slice A n c) e.kids → B ≤ w.heap.size → 0 ≤ m → m ≤ 1000 →
  Calls Tryd.prog 12 #[.agg #[.int .u8 e.op, .string e.name, .slice A n c], .int .i64 m] w (LightPost w)

set_option maxHeartbeats 2000000 in
theorem light_walk : ∀ e, LSaid e := by
  intro e
  induction e using Ex.induct_one with
  | h o s l ih =>
    intro A n c B m w he hl hB hm0 hm1
    have IH := Lib.hid ih
    clear ih
    simp only [Ex.op, Ex.name, Ex.kids] at *
    have hlen := hl.len
    obtain ⟨A', c', hv, hc, hm, _⟩ := id hl
    injection hv with hA hn hc'
    subst hA hn hc'
    unfold maxLen at hm
    have hs : s.size ≤ 2 ^ 63 - 1 := by have := he.2.1; unfold maxLen at this; exact this
    have HF := Lib.hid he
    have HA := Lib.hid hl
    have HBX : Hid (Below w.heap.size w (w.alloc (.cells #[.int .u8 o, .string s, .slice A l.length c] 24))) := Lib.hid ((Below.refl _ _).alloc (Nat.le_refl _) _)
    have HN1 : Hid ((w.alloc (.cells #[.int .u8 o, .string s, .slice A l.length c] 24)).heap[w.heap.size]? = some (.cells #[.int .u8 o, .string s, .slice A l.length c] 24)) := Lib.hid (heap_new _ _)
    clear hl he
    go_enter Tryd.func12, Tryd.ntmps12
    obtain ⟨d0, d1, d2⟩ := three_cells HN1.out
    have hzl := cell_lt d0
    go_wp2
    generalize w.alloc (.cells #[.int .u8 o, .string s, .slice A l.length c] 24) = w1 at *
    have hB1 : w.heap.size ≤ w1.heap.size := HBX.out.size
    have hq : 0 ≤ (s.size : Int) / 20 ∧ (s.size : Int) / 20 ≤ 500000000000000000 := by omega
    generalize (s.size : Int) / 20 = q at *
    go_loopg [5, 1] l.length (fun g u v wr => ∃ (k : Nat) (mm : Int), u = .int .i64 k ∧ v = .int .i64 mm ∧ k + g = l.length ∧ -1000000000000000000 ≤ mm ∧ mm ≤ 1000 ∧ Hid (Below w1.heap.size w1 wr))
    case atStart => exact ⟨0, _, rfl, rfl, by omega, by omega, by omega, Lib.hid (Below.refl _ _)⟩
    case round =>
      obtain ⟨k, mm, rfl, rfl, hkg, hlo, hhi, HR⟩ := hrel
      have HNR := Lib.hid ((HR.out.block _ (Array.getElem?_eq_some_iff.1 HN1.out).1).trans HN1.out)
      have HAR : Hid (Exs wr (Under B) (.slice A l.length c) l) := Lib.hid (HA.out.keep (fun _ h => h) fun b hb => (HR.out.block b (by have : b < B := hb; omega)).trans (HBX.out.block b (by have : b < B := hb; omega)))
      have HBR : Hid (Below w.heap.size w wr) := Lib.hid (belowNext HBX.out HR.out)
      clear d0 d1 d2
      obtain ⟨d0, d1, d2⟩ := three_cells HNR.out
      have hzr := cell_lt d0
      by_cases hk : k < l.length
      · by_cases hmm : 0 < mm
        · have hlx : l[k]? = some l[k] := List.getElem?_eq_getElem hk
          generalize hx : l[k] = x at *
          obtain ⟨b, off, rfl, hb, hat⟩ := HAR.out.get hlx
          obtain ⟨vk, f0, f1, f2, exk⟩ := (exAt_iff x b _).1 hat
          obtain ⟨A3, c3, rfl, _⟩ := id exk
          have hl3 := cell_lt f0
          have HX := Lib.hid hlx
          have HEK := Lib.hid exk
          obtain ⟨g, rfl⟩ : ∃ g, gk = g + 1 := ⟨gk - 1, by omega⟩
          clear exk hx hlx hat hb
          go_wp2_with fail
          have hxm := List.mem_of_getElem? HX.out
          refine (IH.out x hxm A3 _ c3 B mm wr (HF.out.kid (e := .mk o s l) hxm) HEK.out (by omega) (by omega) hhi).mono ?_
          rintro e w3 ⟨⟨r, rfl, hr0, hr1⟩, hb3⟩
          have HR3 : Hid (Below w1.heap.size w1 w3) := Lib.hid (belowNext HR.out hb3)
          clear hb3 f0 f1 f2 HEK
          go_wp2
          go_roundg g
          case measure => omega
          case rel => exact ⟨k + 1, r, by go_num, rfl, by omega, hr0, hr1, HR3⟩
        · go_wp2
          go_ret
          exact ⟨⟨mm, rfl, hlo, hhi⟩, HBR.out⟩
      · go_wp2
        go_ret
        exact ⟨⟨mm, rfl, hlo, hhi⟩, HBR.out⟩
theorem light6_any (e : Ex) (A : Option Addr) (n c : Nat) (m : Int) (w : World) (he : e.fits) (hl : Exs w (Under w.heap.size) (.slice A n c) e.kids) (h0 : 0 ≤ m) (h1 : m ≤ 1000) :
    Calls Tryd.prog 12 #[.agg #[.int .u8 e.op, .string e.name, .slice A n c], .int .i64 m] w (LightPost w) := light_walk e A n c w.heap.size m w he hl (Nat.le_refl _) h0 h1
end Go.Proofs.YtldmimekmjmkgaaDoor
