/-
  The chapter's example (at the head of the statements of chapter 2).
-/
import Derived.Test.YtdbpnfabcmndjaaDoorC3
namespace Go.Proofs.YtdbpnfabcmndjaaDoor
open Go.RowKit Go.Sort

def TEXT : ByteArray := ⟨#[116, 101, 120, 116]⟩
def BB : ByteArray := ⟨#[98]⟩
def ALIGN : ByteArray := ⟨#[97, 108, 105, 103, 110]⟩
def DOC : ByteArray := ⟨#[100, 111, 99]⟩
def exBang : Tree := .mk TEXT ⟨#[33]⟩ [BB] [] []
def exHi : Tree := .mk TEXT ⟨#[104, 105]⟩ [] [] []
def exPara : Tree := .mk ⟨#[112, 97, 114, 97]⟩ ByteArray.empty [] [(ALIGN, ⟨#[108, 101, 102, 116]⟩)] [exHi, exBang]
def exDoc : Tree := .mk DOC ByteArray.empty [] [] [exPara]
theorem exDoc_weigh : weigh exDoc ≤ 1100000 := by decide +kernel
theorem exDoc_check : checkB exDoc = 0 := by decide +kernel
theorem exDoc_print : printB exDoc = [100, 111, 99, 91, 112, 97, 114, 97, 40, 97, 108, 105, 103, 110, 61, 34, 108, 101, 102, 116, 34, 41, 91, 34, 104, 105, 34, 34, 33, 34, 60, 98, 62, 93, 93] := by decide +kernel

theorem strs_one {w : World} {S : Nat → Prop} {g : Nat} {s : ByteArray} (h : w.cell? ⟨g, 0, none⟩ = some (.string s)) (hS : S g) : Strs w S (.slice (some ⟨g, 0, none⟩) 1 1) [s] :=
  ⟨_, 1, rfl, Nat.le_refl _, by unfold maxLen; omega, .inr ⟨g, 0, rfl, hS, fun i s' hi => by
    match i, hi with
    | 0, hi => simp at hi; subst hi; exact h
    | i + 1, hi => simp at hi⟩⟩
theorem pairs_one {w : World} {S : Nat → Prop} {g : Nat} {p : ByteArray × ByteArray} {s t : ByteArray} (h : w.cell? ⟨g, 0, none⟩ = some (.string s)) (h' : w.cell? ⟨g, 1, none⟩ = some (.string t)) (hs : p.1 = s) (ht : p.2 = t) (hS : S g) : Pairs w S (.slice (some ⟨g, 0, none⟩) 1 1) [p] :=
  ⟨_, 1, rfl, Nat.le_refl _, by unfold maxLen; omega, .inr ⟨g, 0, rfl, hS, fun i s' hi => by
    match i, hi with
    | 0, hi => simp at hi; subst hi hs ht; exact ⟨h, h'⟩
    | i + 1, hi => simp at hi⟩⟩

theorem kids_block {w : World} {S : Nat → Prop} {g n : Nat} {arr : Array Value} {T : TypeId} {l : List Tree} (hh : w.heap[g]? = some (.cells arr T)) (hc : Cells w S l arr.toList) (hn : l.length = n) (hS : S g) (hm : n ≤ 1100000 := by decide) : Kids w S (.slice (some ⟨g, 0, none⟩) n n) l := by
  subst hn
  refine ⟨_, l.length, rfl, Nat.le_refl _, by unfold maxLen; omega, .inr ⟨g, 0, rfl, hS, rowAt_cells hc fun j u hj => ?_⟩⟩
  simp only [World.cell?, hh]
  simpa using hj


set_option maxHeartbeats 1100000 in
theorem shown2_any (w : World) (hT : Tabs w) : Calls Tryd.prog 22 #[] w fun e w' => e = .returned (.bool true) ∧ Below w.heap.size w w' := by
  have HT := Lib.hid hT
  clear hT
  go_enter Tryd.func22, Tryd.ntmps22
  go_wp2_with fail
  generalize hW6 : (((((w.alloc _).alloc _).alloc _).alloc _).alloc _).alloc _ = W6
  have hB : Below w.heap.size w W6 := by subst hW6; exact ((((((Below.refl _ _).alloc (Nat.le_refl _) _).alloc (by simp) _).alloc (by simp; omega) _).alloc (by simp; omega) _).alloc (by simp; omega) _).alloc (by simp; omega) _
  have hz : W6.heap.size = w.heap.size + 1 + 1 + 1 + 1 + 1 + 1 := by subst hW6; simp
  have g0 : W6.heap[w.heap.size]? = some (.cells #[.string ⟨#[98]⟩] 9) := by subst hW6; exact heap_old _ _ _ (heap_old _ _ _ (heap_old _ _ _ (heap_old _ _ _ (heap_old _ _ _ (heap_new _ _)))))
  have g2 : W6.heap[w.heap.size + 1 + 1]? = some (.cells #[.string ⟨#[97, 108, 105, 103, 110]⟩, .string ⟨#[108, 101, 102, 116]⟩] 42) := by subst hW6; exact heap_old _ _ _ (heap_old _ _ _ (heap_old _ _ _ (heap_new' _ _ (by simp))))
  have g3 : W6.heap[w.heap.size + 1 + 1 + 1]? = some (.cells #[.string ⟨#[116, 101, 120, 116]⟩, .string ⟨#[104, 105]⟩, .slice none 0 0, .slice none 0 0, .slice none 0 0, .string ⟨#[116, 101, 120, 116]⟩, .string ⟨#[33]⟩, .slice (some ⟨w.heap.size, 0, none⟩) 1 1, .slice none 0 0, .slice none 0 0] 26) := by subst hW6; exact heap_old _ _ _ (heap_old _ _ _ (heap_new' _ _ (by simp)))
  have g4 : W6.heap[w.heap.size + 1 + 1 + 1 + 1]? = some (.cells #[.string ⟨#[112, 97, 114, 97]⟩, .string ⟨#[]⟩, .slice none 0 0, .slice (some ⟨w.heap.size + 1 + 1, 0, none⟩) 1 1, .slice (some ⟨w.heap.size + 1 + 1 + 1, 0, none⟩) 2 2] 26) := by subst hW6; exact heap_old _ _ _ (heap_new' _ _ (by simp))
  clear hW6
  have m0 : Strs W6 (Under W6.heap.size) (.slice (some ⟨w.heap.size, 0, none⟩) 1 1) [BB] := strs_one (by simp only [World.cell?, g0]; rfl) (by unfold Under; omega)
  have a0 : Pairs W6 (Under W6.heap.size) (.slice (some ⟨w.heap.size + 1 + 1, 0, none⟩) 1 1) [(ALIGN, ⟨#[108, 101, 102, 116]⟩)] := pairs_one (s := ALIGN) (t := ⟨#[108, 101, 102, 116]⟩) (by simp only [World.cell?, g2]; rfl) (by simp only [World.cell?, g2]; rfl) rfl rfl (by unfold Under; omega)
  have k0 : Kids W6 (Under W6.heap.size) (.slice (some ⟨w.heap.size + 1 + 1 + 1, 0, none⟩) 2 2) [exHi, exBang] := kids_block g3 ⟨_, _, _, _, rfl, strs_none, pairs_none, kids_none, _, _, _, _, rfl, m0, pairs_none, kids_none, rfl⟩ rfl (by unfold Under; omega)
  have k1 : Kids W6 (Under W6.heap.size) (.slice (some ⟨w.heap.size + 1 + 1 + 1 + 1, 0, none⟩) 1 1) [exPara] := kids_block g4 ⟨_, _, _, _, rfl, strs_none, a0, k0, rfl⟩ rfl (by unfold Under; omega)
  have HN : Hid (Node W6 (Under W6.heap.size) (.agg #[.string ⟨#[100, 111, 99]⟩, .string ⟨#[]⟩, .slice none 0 0, .slice none 0 0, .slice (some ⟨w.heap.size + 1 + 1 + 1 + 1, 0, none⟩) 1 1]) exDoc) := Lib.hid ⟨_, _, _, rfl, strs_none, pairs_none, k1⟩
  clear g0 g2 g3 g4 m0 a0 k0 k1 hz
  refine (print_any _ exDoc W6 HN.out exDoc_weigh (HT.out.below hB)).mono ?_
  rintro e w7 ⟨rfl, hb7⟩
  rw [exDoc_print, exDoc_check]
  have hB7 := belowNext hB hb7
  clear hb7
  go_wp2
  go_ret
  exact ⟨rfl, hB7⟩
end Go.Proofs.YtdbpnfabcmndjaaDoor
