/-
  A tree with another node where a path leads: what leads where, sizes, and back again (no program is named here).
  What both Inners, both Starts and both Withs answer, in one form; the law's last part.
  PlaceInner walked (what the document's With answers is handed in).
-/
import Derived.Test.YtmmifednhleggaaMRE
import Derived.Test.YtmmifednhleggaaMRD
import Derived.Deep.RegionHeldLaw
namespace Go.Proofs.Ytmmifednhleggaa
open Go.RowKit Go.Sort

theorem setKid_kids (t : Tree) (i : Nat) (y : Tree) : (setKid t i y).kids = t.kids.set i y := rfl
theorem setKid_kind (t : Tree) (i : Nat) (y : Tree) : (setKid t i y).kind = t.kind := rfl
theorem set_same {α : Type} {l : List α} {i : Nat} {x : α} (h : l[i]? = some x) : l.set i x = l := by
  obtain ⟨hl, he⟩ := List.getElem?_eq_some_iff.1 h
  rw [← he]; exact List.set_getElem_self hl
theorem setKid_back {t v y : Tree} {i : Nat} (h : t.kids[i]? = some v) : setKid (setKid t i y) i v = t := by
  obtain ⟨k, x, m, a, l⟩ := t
  simp only [setKid, Tree.kind, Tree.text, Tree.marks, Tree.attrs, Tree.kids, List.set_set] at *
  rw [set_same h]
theorem kidAt_set {t v y : Tree} {i : Int} (h : kidAt t i = some v) : kidAt (setKid t i.toNat y) i = some y := by
  obtain ⟨hT, h0, hv⟩ := kidAt_some h
  refine kidAt_of (by rw [setKid_kind]; exact hT) h0 ?_
  rw [setKid_kids, List.getElem?_set_self (List.getElem?_eq_some_iff.1 hv).1]
theorem goB_with : ∀ (p : List Int) (t u m : Tree), goB t p = some u → goB (withB t p m) p = some m
  | [], t, u, m, h => rfl
  | i :: p, t, u, m, h => by
    rw [goB] at h
    cases hk : kidAt t i with
    | none => rw [hk] at h; cases h
    | some v =>
      rw [hk] at h
      have hv := (kidAt_some hk).2.2
      simp only [withB, hv, goB]
      rw [kidAt_set hk]
      exact goB_with p v u m h
theorem with_with : ∀ (p : List Int) (t u m : Tree), goB t p = some u → withB (withB t p m) p u = t
  | [], t, u, m, h => by simp only [goB, Option.some.injEq] at h; subst h; rfl
  | i :: p, t, u, m, h => by
    rw [goB] at h
    cases hk : kidAt t i with
    | none => rw [hk] at h; cases h
    | some v =>
      rw [hk] at h
      have hv := (kidAt_some hk).2.2
      simp only [withB, hv]
      have hg : (setKid t i.toNat (withB v p m)).kids[i.toNat]? = some (withB v p m) := by
        rw [setKid_kids, List.getElem?_set_self (List.getElem?_eq_some_iff.1 hv).1]
      rw [hg]
      simp only
      rw [with_with p v u m h, setKid_back hv]
theorem total_set : ∀ (l : List Tree) (i : Nat) (v y : Tree), l[i]? = some v → totalB (l.set i y) + sizeB v = totalB l + sizeB y
  | [], i, v, y, h => by simp at h
  | x :: l, 0, v, y, h => by simp at h; subst h; simp only [List.set_cons_zero, totalB]; omega
  | x :: l, i + 1, v, y, h => by
    have := total_set l i v y (by simpa using h)
    simp only [List.set_cons_succ, totalB]; omega
theorem weigh_set : ∀ (l : List Tree) (i : Nat) (v y : Tree), l[i]? = some v → weighAll (l.set i y) + weigh v = weighAll l + weigh y
  | [], i, v, y, h => by simp at h
  | x :: l, 0, v, y, h => by simp at h; subst h; simp only [List.set_cons_zero, weighAll]; omega
  | x :: l, i + 1, v, y, h => by
    have := weigh_set l i v y (by simpa using h)
    simp only [List.set_cons_succ, weighAll]; omega
theorem size_with : ∀ (p : List Int) (t u m : Tree), goB t p = some u → sizeB (withB t p m) + sizeB u = sizeB t + sizeB m
  | [], t, u, m, h => by simp only [goB, Option.some.injEq] at h; subst h; simp only [withB]; omega
  | i :: p, t, u, m, h => by
    rw [goB] at h
    cases hk : kidAt t i with
    | none => rw [hk] at h; cases h
    | some v =>
      rw [hk] at h
      obtain ⟨hT, h0, hv⟩ := kidAt_some hk
      simp only [withB, hv]
      have h1 := size_with p v u m h
      have h2 := total_set t.kids i.toNat v (withB v p m) hv
      rw [sizeB_node (x := setKid t i.toNat (withB v p m)) hT, setKid_kids, sizeB_node hT]
      omega
theorem weigh_with : ∀ (p : List Int) (t u m : Tree), goB t p = some u → weigh (withB t p m) + weigh u = weigh t + weigh m
  | [], t, u, m, h => by simp only [goB, Option.some.injEq] at h; subst h; simp only [withB]; omega
  | i :: p, t, u, m, h => by
    rw [goB] at h
    cases hk : kidAt t i with
    | none => rw [hk] at h; cases h
    | some v =>
      rw [hk] at h
      obtain ⟨hT, h0, hv⟩ := kidAt_some hk
      simp only [withB, hv]
      have h1 := weigh_with p v u m h
      have h2 := weigh_set t.kids i.toNat v (withB v p m) hv
      obtain ⟨k, x, ms, a, l⟩ := t
      simp only [setKid, Tree.kind, Tree.text, Tree.marks, Tree.attrs, Tree.kids, weigh] at *
      omega
end Go.Proofs.Ytmmifednhleggaa

namespace Go.Proofs.Ytmmifednhleggaa
open Go.RowKit Go.Sort Go.Maps

def ZT4 : Tree := .mk ⟨#[]⟩ ⟨#[]⟩ [] [] []
def innv : Option Tree → Tree × Int
  | none => (ZT4, 9)
  | some u => (u, 0)
def withv (t m : Tree) (p : List Int) : Tree × Int := innv ((followB t p).map fun _ => withB t p m)
abbrev nCells (u : Tree) (A1 : Option Addr) (n1 c1 : Nat) (A2 : Option Addr) (n2 c2 : Nat) (A3 : Option Addr) (c3 : Nat) : Array Value := #[.string u.kind, .string u.text, .slice A1 n1 c1, .slice A2 n2 c2, .slice A3 u.kids.length c3]
/-- What Inner and With answer. -/
def NForm (w : World) (r : Tree × Int) (e : Ending) (w' : World) : Prop :=
  ∃ A1 n1 c1 A2 n2 c2 A3 c3, e = .returned (.tuple #[.agg #[.string r.1.kind, .string r.1.text, .slice A1 n1 c1, .slice A2 n2 c2, .slice A3 r.1.kids.length c3], .int .i64 r.2]) ∧
    Node w' (Under w'.heap.size) (.agg #[.string r.1.kind, .string r.1.text, .slice A1 n1 c1, .slice A2 n2 c2, .slice A3 r.1.kids.length c3]) r.1 ∧ Below w.heap.size w w'
theorem zt4_weigh : weigh ZT4 ≤ 2000 := by decide +kernel
theorem innv_weigh {t : Tree} {p : List Int} (h : weigh t ≤ 1000) : weigh (innv (followB t p)).1 ≤ 2000 := by
  cases hf : followB t p with
  | none => exact zt4_weigh
  | some u => have := (goB_weigh p t u (followB_some hf).1); simp only [innv]; omega
theorem withv_weigh {t m : Tree} {p : List Int} (h : weigh t ≤ 1000) (hm : weigh m ≤ 1000) : weigh (withv t m p).1 ≤ 2000 := by
  unfold withv
  cases hf : followB t p with
  | none => exact zt4_weigh
  | some u => have := weigh_with p t u m (followB_some hf).1; simp only [innv, Option.map_some]; omega
theorem InnPost.form {w w' : World} {t : Tree} {p : List Int} {e : Ending} (h : InnPost w t p e w') : NForm w (innv (followB t p)) e w' := by
  obtain ⟨A1, n1, c1, A2, n2, c2, A3, c3, u, n, rfl, hn, hf, hb⟩ := h
  have hr : innv (followB t p) = (u, n) := by
    rcases hf with ⟨h1, rfl⟩ | ⟨h1, rfl, rfl⟩ <;> rw [h1] <;> rfl
  rw [hr]
  exact ⟨A1, n1, c1, A2, n2, c2, A3, c3, rfl, hn.keep (fun b h => h.2) fun _ _ => rfl, hb⟩
theorem RInnPost.form {w w' : World} {t : Tree} {p : List Int} {e : Ending} (h : RInnPost w t p e w') : NForm w (innv (followB t p)) e w' := by
  obtain ⟨A1, n1, c1, A2, n2, c2, A3, c3, u, n, rfl, hn, hf, hb⟩ := h
  have hr : innv (followB t p) = (u, n) := by
    rcases hf with ⟨h1, rfl⟩ | ⟨h1, rfl, rfl⟩ <;> rw [h1] <;> rfl
  rw [hr]
  exact ⟨A1, n1, c1, A2, n2, c2, A3, c3, rfl, hn.keep (fun b h => Nat.lt_of_lt_of_le h hb.size) fun _ _ => rfl, hb⟩
theorem WithPost.form {w w' : World} {t m : Tree} {p : List Int} {e : Ending} (h : WithPost w t m p e w') : NForm w (withv t m p) e w' := by
  obtain ⟨A1, n1, c1, A2, n2, c2, A3, c3, u, n, rfl, hn, hf, hb⟩ := h
  have hr : withv t m p = (u, n) := by
    unfold withv
    rcases hf with ⟨h1, rfl, rfl⟩ | ⟨h1, rfl, rfl⟩
    · cases hq : followB t p with
      | none => exact absurd hq h1
      | some u => rfl
    · rw [h1]; rfl
  rw [hr]
  exact ⟨A1, n1, c1, A2, n2, c2, A3, c3, rfl, hn.keep (fun b h => h.2) fun _ _ => rfl, hb⟩
theorem RWithPost.form {w w' : World} {t m : Tree} {p : List Int} {e : Ending} (h : RWithPost (Under w.heap.size) w t m p e w') : NForm w (withv t m p) e w' := by
  obtain ⟨A1, n1, c1, A2, n2, c2, A3, c3, u, n, rfl, hn, hf, hb⟩ := h
  have hr : withv t m p = (u, n) := by
    unfold withv
    rcases hf with ⟨h1, rfl, rfl⟩ | ⟨h1, rfl, rfl⟩
    · cases hq : followB t p with
      | none => exact absurd hq h1
      | some u => rfl
    · rw [h1]; rfl
  rw [hr]
  exact ⟨A1, n1, c1, A2, n2, c2, A3, c3, rfl, hn.keep (fun b h => h.elim (fun h => Nat.lt_of_lt_of_le h hb.size) fun h => h.2) fun _ _ => rfl, hb⟩
theorem same_alike (t : Tree) (va vb : Value) (w : World) (hw : weigh t ≤ 1000000) (ha : Node w (Under w.heap.size) va t) (hb : Node w (Under w.heap.size) vb t) :
    Calls Try.prog 19 #[va, vb] w fun e w' => e = .returned (.bool true) ∧ Below w.heap.size w w' :=
  same_of (weighAll t.kids) (Lib.hid (sameAll_all _)) t va vb w (Nat.le_refl _) hw ha hb
theorem node_on {W W' : World} {k t : ByteArray} {vm va vk : Value} {u : Tree} (h : Node W (Under W.heap.size) (.agg #[.string k, .string t, vm, va, vk]) u) (hb : Below W.heap.size W W') : Node W' (Under W'.heap.size) (.agg #[.string k, .string t, vm, va, vk]) u := h.keep (fun _ hb' => Nat.lt_of_lt_of_le hb' hb.size) fun b hb' => hb.block b hb'

section
variable {w : World} {ops : Array Oper} {o : Oper} {a : Act} {K : Act → World → Prop} {Q : Exit → Act → World → Prop} {E : Prop}
/-- Calls in regions that draw their order. -/
theorem step_doc4 {v1 : Value} {R : Ending → World → Prop} (hgd : o.guard = none) (p1 : Operand) (ho : o.op = .call { callee := .value (.func 6), args := #[p1], argTypes := #[22] })
    (h1 : a.eval p1 = v1) (hc : Calls Try.prog 6 #[v1] w R) (h : ∀ e w', R e w' → ∃ u, e = .returned u ∧ K (a.put o.dst u) w') :
    if Region.wanted o (yielded ops a.tmps) = true then Oper.wp Try.prog o a w K Q else E := by
  have hwn : Region.wanted o (yielded ops a.tmps) = true := by simp [Region.wanted, hgd]
  rw [if_pos hwn]
  have hrun : (execOp a.eval o).run Try.prog w = .ok (.enter 6 #[v1]) w := by
    have hf : a.eval (.func 6) = .func (.func 6) #[] #[] := rfl
    obtain ⟨c, hc⟩ : ∃ c, Try.f6.body = some c := Option.isSome_iff_exists.1 (by kernel_rfl)
    have hne : ¬ Try.f6.name = "runtime.NumGoroutine" := of_decide_eq_false (by kernel_rfl)
    simp [execOp, ho, resolve, invoke, h1, hf, Deferred.ofValue, callFunc, hne, hc]
  unfold Oper.wp
  rw [hrun, Oper.upon_enter]
  refine hc.mono fun e w'' hh => ?_
  obtain ⟨u, rfl, hK⟩ := h e w'' hh
  exact hK
theorem step_pwith {v1 v2 v3 : Value} {R : Ending → World → Prop} (hgd : o.guard = none) (p1 p2 p3 : Operand) (ho : o.op = .call { callee := .value (.func 17), args := #[p1, p2, p3], argTypes := #[31, 23, 31] })
    (h1 : a.eval p1 = v1) (h2 : a.eval p2 = v2) (h3 : a.eval p3 = v3) (hc : Calls Try.prog 17 #[v1, v2, v3] w R) (h : ∀ e w', R e w' → ∃ u, e = .returned u ∧ K (a.put o.dst u) w') :
    if Region.wanted o (yielded ops a.tmps) = true then Oper.wp Try.prog o a w K Q else E := by
  have hwn : Region.wanted o (yielded ops a.tmps) = true := by simp [Region.wanted, hgd]
  rw [if_pos hwn]
  have hrun : (execOp a.eval o).run Try.prog w = .ok (.enter 17 #[v1, v2, v3]) w := by
    have hf : a.eval (.func 17) = .func (.func 17) #[] #[] := rfl
    obtain ⟨c, hc⟩ : ∃ c, Try.f17.body = some c := Option.isSome_iff_exists.1 (by kernel_rfl)
    have hne : ¬ Try.f17.name = "runtime.NumGoroutine" := of_decide_eq_false (by kernel_rfl)
    simp [execOp, ho, resolve, invoke, h1, h2, h3, hf, Deferred.ofValue, callFunc, hne, hc]
  unfold Oper.wp
  rw [hrun, Oper.upon_enter]
  refine hc.mono fun e w'' hh => ?_
  obtain ⟨u, rfl, hK⟩ := h e w'' hh
  exact hK
theorem step_qwith {v1 v2 v3 : Value} {R : Ending → World → Prop} (hgd : o.guard = none) (p1 p2 p3 : Operand) (ho : o.op = .call { callee := .value (.func 18), args := #[p1, p2, p3], argTypes := #[31, 23, 31] })
    (h1 : a.eval p1 = v1) (h2 : a.eval p2 = v2) (h3 : a.eval p3 = v3) (hc : Calls Try.prog 18 #[v1, v2, v3] w R) (h : ∀ e w', R e w' → ∃ u, e = .returned u ∧ K (a.put o.dst u) w') :
    if Region.wanted o (yielded ops a.tmps) = true then Oper.wp Try.prog o a w K Q else E := by
  have hwn : Region.wanted o (yielded ops a.tmps) = true := by simp [Region.wanted, hgd]
  rw [if_pos hwn]
  have hrun : (execOp a.eval o).run Try.prog w = .ok (.enter 18 #[v1, v2, v3]) w := by
    have hf : a.eval (.func 18) = .func (.func 18) #[] #[] := rfl
    obtain ⟨c, hc⟩ : ∃ c, Try.f18.body = some c := Option.isSome_iff_exists.1 (by kernel_rfl)
    have hne : ¬ Try.f18.name = "runtime.NumGoroutine" := of_decide_eq_false (by kernel_rfl)
    simp [execOp, ho, resolve, invoke, h1, h2, h3, hf, Deferred.ofValue, callFunc, hne, hc]
  unfold Oper.wp
  rw [hrun, Oper.upon_enter]
  refine hc.mono fun e w'' hh => ?_
  obtain ⟨u, rfl, hK⟩ := h e w'' hh
  exact hK
theorem step_same4 {v1 v2 : Value} {R : Ending → World → Prop} (hgd : o.guard = none) (p1 p2 : Operand) (ho : o.op = .call { callee := .value (.func 19), args := #[p1, p2], argTypes := #[31, 31] })
    (h1 : a.eval p1 = v1) (h2 : a.eval p2 = v2) (hc : Calls Try.prog 19 #[v1, v2] w R) (h : ∀ e w', R e w' → ∃ u, e = .returned u ∧ K (a.put o.dst u) w') :
    if Region.wanted o (yielded ops a.tmps) = true then Oper.wp Try.prog o a w K Q else E := by
  have hwn : Region.wanted o (yielded ops a.tmps) = true := by simp [Region.wanted, hgd]
  rw [if_pos hwn]
  have hrun : (execOp a.eval o).run Try.prog w = .ok (.enter 19 #[v1, v2]) w := by
    have hf : a.eval (.func 19) = .func (.func 19) #[] #[] := rfl
    obtain ⟨c, hc⟩ : ∃ c, Try.f19.body = some c := Option.isSome_iff_exists.1 (by kernel_rfl)
    have hne : ¬ Try.f19.name = "runtime.NumGoroutine" := of_decide_eq_false (by kernel_rfl)
    simp [execOp, ho, resolve, invoke, h1, h2, hf, Deferred.ofValue, callFunc, hne, hc]
  unfold Oper.wp
  rw [hrun, Oper.upon_enter]
  refine hc.mono fun e w'' hh => ?_
  obtain ⟨u, rfl, hK⟩ := h e w'' hh
  exact hK
theorem step_same4g {v1 v2 : Value} {R : Ending → World → Prop} (hwn : Region.wanted o (yielded ops a.tmps) = true) (p1 p2 : Operand) (ho : o.op = .call { callee := .value (.func 19), args := #[p1, p2], argTypes := #[31, 31] })
    (h1 : a.eval p1 = v1) (h2 : a.eval p2 = v2) (hc : Calls Try.prog 19 #[v1, v2] w R) (h : ∀ e w', R e w' → ∃ u, e = .returned u ∧ K (a.put o.dst u) w') :
    if Region.wanted o (yielded ops a.tmps) = true then Oper.wp Try.prog o a w K Q else E := by
  rw [if_pos hwn]
  have hrun : (execOp a.eval o).run Try.prog w = .ok (.enter 19 #[v1, v2]) w := by
    have hf : a.eval (.func 19) = .func (.func 19) #[] #[] := rfl
    obtain ⟨c, hc⟩ : ∃ c, Try.f19.body = some c := Option.isSome_iff_exists.1 (by kernel_rfl)
    have hne : ¬ Try.f19.name = "runtime.NumGoroutine" := of_decide_eq_false (by kernel_rfl)
    simp [execOp, ho, resolve, invoke, h1, h2, hf, Deferred.ofValue, callFunc, hne, hc]
  unfold Oper.wp
  rw [hrun, Oper.upon_enter]
  refine hc.mono fun e w'' hh => ?_
  obtain ⟨u, rfl, hK⟩ := h e w'' hh
  exact hK
theorem step_doc4g {v1 : Value} {R : Ending → World → Prop} (hwn : Region.wanted o (yielded ops a.tmps) = true) (p1 : Operand) (ho : o.op = .call { callee := .value (.func 6), args := #[p1], argTypes := #[22] })
    (h1 : a.eval p1 = v1) (hc : Calls Try.prog 6 #[v1] w R) (h : ∀ e w', R e w' → ∃ u, e = .returned u ∧ K (a.put o.dst u) w') :
    if Region.wanted o (yielded ops a.tmps) = true then Oper.wp Try.prog o a w K Q else E := by
  rw [if_pos hwn]
  have hrun : (execOp a.eval o).run Try.prog w = .ok (.enter 6 #[v1]) w := by
    have hf : a.eval (.func 6) = .func (.func 6) #[] #[] := rfl
    obtain ⟨c, hc⟩ : ∃ c, Try.f6.body = some c := Option.isSome_iff_exists.1 (by kernel_rfl)
    have hne : ¬ Try.f6.name = "runtime.NumGoroutine" := of_decide_eq_false (by kernel_rfl)
    simp [execOp, ho, resolve, invoke, h1, hf, Deferred.ofValue, callFunc, hne, hc]
  unfold Oper.wp
  rw [hrun, Oper.upon_enter]
  refine hc.mono fun e w'' hh => ?_
  obtain ⟨u, rfl, hK⟩ := h e w'' hh
  exact hK
end

/-- All blocks but one. -/
def Off (g n : Nat) : Nat → Prop := fun b => b < n ∧ b ≠ g
/-- What With answers, apart from one block. -/
def NOff (w : World) (g : Nat) (r : Tree × Int) (e : Ending) (w' : World) : Prop :=
  ∃ A1 n1 c1 A2 n2 c2 A3 c3, e = .returned (.tuple #[.agg #[.string r.1.kind, .string r.1.text, .slice A1 n1 c1, .slice A2 n2 c2, .slice A3 r.1.kids.length c3], .int .i64 r.2]) ∧
    Node w' (Off g w'.heap.size) (.agg #[.string r.1.kind, .string r.1.text, .slice A1 n1 c1, .slice A2 n2 c2, .slice A3 r.1.kids.length c3]) r.1 ∧ Below w.heap.size w w'
theorem WithPost.off {w w' : World} {t m : Tree} {p : List Int} {e : Ending} {g : Nat} (hg : g < w.heap.size) (h : WithPost w t m p e w') : NOff w g (withv t m p) e w' := by
  obtain ⟨A1, n1, c1, A2, n2, c2, A3, c3, u, n, rfl, hn, hf, hb⟩ := h
  have hr : withv t m p = (u, n) := by
    unfold withv
    rcases hf with ⟨h1, rfl, rfl⟩ | ⟨h1, rfl, rfl⟩
    · cases hq : followB t p with
      | none => exact absurd hq h1
      | some u => rfl
    · rw [h1]; rfl
  rw [hr]
  exact ⟨A1, n1, c1, A2, n2, c2, A3, c3, rfl, hn.keep (fun b h => ⟨h.2, by have := h.1; omega⟩) fun _ _ => rfl, hb⟩
theorem RWithPost.off {w w' : World} {t m : Tree} {p : List Int} {e : Ending} {g : Nat} (hg : g < w.heap.size) (h : RWithPost (Off g w.heap.size) w t m p e w') : NOff w g (withv t m p) e w' := by
  obtain ⟨A1, n1, c1, A2, n2, c2, A3, c3, u, n, rfl, hn, hf, hb⟩ := h
  have hr : withv t m p = (u, n) := by
    unfold withv
    rcases hf with ⟨h1, rfl, rfl⟩ | ⟨h1, rfl, rfl⟩
    · cases hq : followB t p with
      | none => exact absurd hq h1
      | some u => rfl
    · rw [h1]; rfl
  rw [hr]
  exact ⟨A1, n1, c1, A2, n2, c2, A3, c3, rfl, hn.keep (fun b h => h.elim (fun h => ⟨Nat.lt_of_lt_of_le h.1 hb.size, h.2⟩) fun h => ⟨h.2, by have := h.1; omega⟩) fun _ _ => rfl, hb⟩

/-- Behind With's region. -/
def XMid (w9 : World) (u : Tree) (n : Int) (s17 s18 : Value) (wx : World) : Prop :=
  ∃ G A1 n1 c1 A2 n2 c2 A3 c3, s17 = .pointer (some ⟨G, 0, none⟩) ∧ s18 = .int .i64 n ∧ wx.heap[G]? = some (.cells #[.string u.kind, .string u.text, .slice A1 n1 c1, .slice A2 n2 c2, .slice A3 u.kids.length c3] 31) ∧
    Node wx (Under wx.heap.size) (.agg #[.string u.kind, .string u.text, .slice A1 n1 c1, .slice A2 n2 c2, .slice A3 u.kids.length c3]) u ∧ Below w9.heap.size w9 wx
theorem xmid_new {w9 w6 : World} {g : Nat} {u : Tree} {n : Int} {A1 A2 A3 : Option Addr} {n1 c1 n2 c2 c3 : Nat} (hb : Below w9.heap.size w9 w6) (hn : Node w6 (Off g w6.heap.size) (.agg #[.string u.kind, .string u.text, .slice A1 n1 c1, .slice A2 n2 c2, .slice A3 u.kids.length c3]) u) :
    XMid w9 u n (.pointer (some ⟨w6.heap.size, 0, none⟩)) (.int .i64 n) (w6.alloc (.cells #[.string u.kind, .string u.text, .slice A1 n1 c1, .slice A2 n2 c2, .slice A3 u.kids.length c3] 31)) := by
  have ha := below_one w6 (.cells #[.string u.kind, .string u.text, .slice A1 n1 c1, .slice A2 n2 c2, .slice A3 u.kids.length c3] 31)
  exact ⟨w6.heap.size, A1, n1, c1, A2, n2, c2, A3, c3, rfl, rfl, heap_new _ _, hn.keep (fun b h => Nat.lt_of_lt_of_le h.1 ha.size) fun b h => ha.block b h.1, hb.alloc hb.size _⟩
theorem xmid_put {w9 w6 : World} {g : Nat} {u : Tree} {n : Int} {A1 A2 A3 : Option Addr} {n1 c1 n2 c2 c3 : Nat} (hg : w9.heap.size ≤ g) (hb : Below w9.heap.size w9 w6) (hz : w6.heap[g]? = some ZNodeR) (hn : Node w6 (Off g w6.heap.size) (.agg #[.string u.kind, .string u.text, .slice A1 n1 c1, .slice A2 n2 c2, .slice A3 u.kids.length c3]) u) :
    XMid w9 u n (.pointer (some ⟨g, 0, none⟩)) (.int .i64 n) (((((w6.setCell ⟨g, 0, none⟩ (.string u.kind)).setCell ⟨g, 1, none⟩ (.string u.text)).setCell ⟨g, 2, none⟩ (.slice A1 n1 c1)).setCell ⟨g, 3, none⟩ (.slice A2 n2 c2)).setCell ⟨g, 4, none⟩ (.slice A3 u.kids.length c3)) := by
  have h : XMid w9 u n (.pointer (some ⟨g, 0, none⟩)) (.int .i64 n) (put5z w6 g (.string u.kind) (.string u.text) (.slice A1 n1 c1) (.slice A2 n2 c2) (.slice A3 u.kids.length c3)) :=
    ⟨g, A1, n1, c1, A2, n2, c2, A3, c3, rfl, rfl, put5z_block hz, hn.keep (fun b h => by show b < _; rw [put5z_size]; exact h.1) (fun b h => put5z_other h.2), put5z_below hg hb⟩
  exact h
end Go.Proofs.Ytmmifednhleggaa

namespace Go.Proofs.Ytmmifednhleggaa
open Go.RowKit Go.Sort Go.Maps

set_option maxHeartbeats 20000000 in
set_option maxRecDepth 100000 in
theorem placeInner_walk (hrw : ∀ m p, RWithSaid m p) (v vk vp : Value) (l k : List Cel) (ps : List Int) (w : World) (h : Cels w (Under w.heap.size) v l) (hk : Cels w (Under w.heap.size) vk k) (hp : Ints w (Under w.heap.size) vp ps) (hpr : ∀ x ∈ ps, -9223372036854775808 ≤ x ∧ x ≤ 9223372036854775807) :
    Calls Try.prog 4 #[v, vk, vp] w fun e w' => e = .returned (.bool true) ∧ Below w.heap.size w w' := by
  have HC := Lib.hid h
  have HKC := Lib.hid hk
  have HP := Lib.hid hp
  have HPR := Lib.hid hpr
  have HRW := Lib.hid hrw
  obtain ⟨Ap, cp, rfl, hpc⟩ := hp.form
  have hpm := hp.len.2.2
  unfold maxLen at hpm
  clear h hk hp hpr hrw
  go_enter Try.func4, Try.ntmps4
  go_wp2_with fail
  refine (shown4_any _).mono ?_
  rintro e w1 ⟨rfl, hb1⟩
  have HB1 := Lib.hid hb1
  clear hb1
  by_cases hl : 50 < ps.length
  · have hl' : (50 : Int) < (ps.length : Int) := by omega
    go_wp2
    go_ret
    exact ⟨rfl, HB1.out⟩
  have hl' : ¬ (50 : Int) < (ps.length : Int) := by omega
  go_wp2_with fail
  refine (doc_any _ l w1 ((HC.out.below HB1.out).more HB1.out.size)).mono ?_
  rintro e w2 ⟨A, c, rfl, hk2, hb2⟩
  have HB2 := Lib.hid (belowNext HB1.out hb2)
  have hdw := docB_weigh l
  have hdk := docB_weigh k
  have hi1 := innv_weigh (t := docB l) (p := ps) (by omega)
  have hi2 := withv_weigh (t := docB l) (m := docB k) (p := ps) (by omega) (by omega)
  have HK2 := Lib.hid (hk2.keep (S' := Under w2.heap.size) (fun _ h => h.2) (fun _ _ => rfl))
  have HND : Hid (∀ W, Below w2.heap.size w2 W → Node W (Under W.heap.size) (.agg (docCells A (madeB l).length c)) (docB l)) := Lib.hid fun W hW => doc_node ((HK2.out.below hW).more hW.size)
  have HPI : Hid (∀ W, Below w.heap.size w W → Ints W (Under W.heap.size) (.slice Ap ps.length cp) ps) := Lib.hid fun W hW => HP.out.keep (fun b hb => Nat.lt_of_lt_of_le hb hW.size) (fun b hb => hW.block b hb)
  have HLC : Hid (∀ W, Below w.heap.size w W → Cels W (Under W.heap.size) v l) := Lib.hid fun W hW => (HC.out.below hW).more hW.size
  have HLK : Hid (∀ W, Below w.heap.size w W → Cels W (Under W.heap.size) vk k) := Lib.hid fun W hW => (HKC.out.below hW).more hW.size
  clear hk2 hb2 HB1 hpc HC HKC
  -- the document's variable
  go_upto_region 5 with fail
  generalize hW3 : w2.alloc (.cells (docCells A (madeB l).length c) 31) = W3
  have HB3 : Hid (Below w2.heap.size w2 W3) := Lib.hid (by subst hW3; exact below_one _ _)
  have HD3 : Hid (W3.heap[w2.heap.size]? = some (.cells (docCells A (madeB l).length c) 31)) := Lib.hid (by subst hW3; exact heap_new _ _)
  clear hW3
  obtain ⟨d0, d1, d2, d3, d4⟩ := cells5 HD3.out
  have HB2' := HB2.out
  have HI1 : Hid (∀ W, Below w2.heap.size w2 W → Calls Try.prog 13 #[.agg (docCells A (madeB l).length c), .slice Ap ps.length cp] W (NForm W (innv (followB (docB l) ps)))) := Lib.hid fun W hW => (inner_any _ _ (docB l) ps W (HND.out W hW) (HPI.out W (belowNext HB2' hW)) HPR.out (by omega)).mono fun e w' h => h.form
  have HI2 : Hid (∀ W, Below w2.heap.size w2 W → Calls Try.prog 14 #[.agg (docCells A (madeB l).length c), .slice Ap ps.length cp] W (NForm W (innv (followB (docB l) ps)))) := Lib.hid fun W hW => (rinner_any _ _ (docB l) ps W (HND.out W hW) (HPI.out W (belowNext HB2' hW)) HPR.out (by omega)).mono fun e w' h => h.form
  have HS1 : Hid (∀ W, Below w2.heap.size w2 W → Calls Try.prog 15 #[.agg (docCells A (madeB l).length c), .slice Ap ps.length cp] W fun e w' => e = .returned (.tuple #[.int .i64 (posv ((followB (docB l) ps).map fun _ => (startB (docB l) ps : Int))).1, .int .i64 (posv ((followB (docB l) ps).map fun _ => (startB (docB l) ps : Int))).2]) ∧ Below W.heap.size W w') := Lib.hid fun W hW => by
    have := startP_any _ _ (docB l) ps W (HND.out W hW) (HPI.out W (belowNext HB2' hW)) HPR.out (by omega)
    rwa [posE_v] at this
  have HS2 : Hid (∀ W, Below w2.heap.size w2 W → Calls Try.prog 16 #[.agg (docCells A (madeB l).length c), .slice Ap ps.length cp] W fun e w' => e = .returned (.tuple #[.int .i64 (posv ((followB (docB l) ps).map fun _ => (startB (docB l) ps : Int))).1, .int .i64 (posv ((followB (docB l) ps).map fun _ => (startB (docB l) ps : Int))).2]) ∧ Below W.heap.size W w') := Lib.hid fun W hW => by
    have := rstart_any _ _ (docB l) ps W (HND.out W hW) (HPI.out W (belowNext HB2' hW)) HPR.out (by omega)
    rwa [posE_v] at this
  have HW1 : Hid (∀ W B d g lo hi, Below w2.heap.size w2 W → w2.heap.size ≤ g → g < W.heap.size → hi ≤ W.heap.size → (g < lo ∨ hi ≤ g) → Kids W (From lo hi) (.slice B (madeB k).length d) (madeB k) → Calls Try.prog 17 #[.agg (docCells A (madeB l).length c), .slice Ap ps.length cp, .agg (docCells B (madeB k).length d)] W (NOff W g (withv (docB l) (docB k) ps))) := Lib.hid fun W B d g lo hi hW hg1 hg2 hh hor hB => by
    exact (with_any _ _ _ (docB l) (docB k) ps W (HND.out W hW) (doc_node (hB.keep (fun b h => Nat.lt_of_lt_of_le h.2 hh) fun _ _ => rfl)) (HPI.out W (belowNext HB2' hW)) HPR.out (by omega) (by omega)).mono fun e w' h => h.off hg2
  have HW2 : Hid (∀ W B d g lo hi, Below w2.heap.size w2 W → w2.heap.size ≤ g → g < W.heap.size → hi ≤ W.heap.size → (g < lo ∨ hi ≤ g) → Kids W (From lo hi) (.slice B (madeB k).length d) (madeB k) → Calls Try.prog 18 #[.agg (docCells A (madeB l).length c), .slice Ap ps.length cp, .agg (docCells B (madeB k).length d)] W (NOff W g (withv (docB l) (docB k) ps))) := Lib.hid fun W B d g lo hi hW hg1 hg2 hh hor hB => by
    exact (HRW.out (docB k) ps (Off g W.heap.size) (docB l) _ _ _ W (fun _ h => h.1) (doc_node ((HK2.out.below hW).keep (fun b (h : b < _) => ⟨Nat.lt_of_lt_of_le h hW.size, by omega⟩) fun _ _ => rfl)) (doc_node (hB.keep (fun b h => ⟨Nat.lt_of_lt_of_le h.2 hh, by have := h.1; have := h.2; omega⟩) fun _ _ => rfl)) (HPI.out W (belowNext HB2' hW)) HPR.out (by omega)).mono fun e w' h => h.off hg2
  have HDK : Hid (∀ W, Below w2.heap.size w2 W → Calls Try.prog 6 #[vk] W fun e w' => ∃ B d, e = .returned (.agg (docCells B (madeB k).length d)) ∧ Kids w' (From W.heap.size w'.heap.size) (.slice B (madeB k).length d) (madeB k) ∧ Below W.heap.size W w') := Lib.hid fun W hW => (doc_any vk k W (HLK.out W (belowNext HB2' hW))).mono fun e w' h => by
    obtain ⟨B, d, rfl, hk, hb⟩ := h
    exact ⟨B, d, rfl, hk, hb⟩
  have HDL : Hid (∀ W, Below w2.heap.size w2 W → Calls Try.prog 6 #[v] W fun e w' => ∃ B d, e = .returned (.agg (docCells B (madeB l).length d)) ∧ Kids w' (Under w'.heap.size) (.slice B (madeB l).length d) (madeB l) ∧ Below W.heap.size W w') := Lib.hid fun W hW => (doc_any v l W (HLC.out W (belowNext HB2' hW))).mono fun e w' h => by
    obtain ⟨B, d, rfl, hk, hb⟩ := h
    exact ⟨B, d, rfl, hk.keep (fun _ h => h.2) (fun _ _ => rfl), hb⟩
  generalize innv (followB (docB l) ps) = r1 at *
  generalize withv (docB l) (docB k) ps = r2 at *
  generalize posv ((followB (docB l) ps).map fun _ => (startB (docB l) ps : Int)) = pv at *
  obtain ⟨u1, n1⟩ := r1
  obtain ⟨u2, n2⟩ := r2
  obtain ⟨pn, pe⟩ := pv
  clear HB2' HPR HPI HP HLC HLK HRW hdk
  have HQ := Lib.hid (And.intro hi1 (And.intro hi2 hdw))
  clear hi1 hi2 hdw
  -- Inner
  go_wp2_with fail
  refine (HI1.out W3 HB3.out).mono ?_
  rintro e w4 ⟨E1, x1, y1, E2, x2, y2, E3, y3, rfl, hn4, hb4⟩
  simp only at hn4
  have HD4 := Lib.hid (keepb hb4 HD3.out)
  have HB4 := Lib.hid (belowNext HB3.out hb4)
  have HN4 := Lib.hid hn4
  clear hb4 hn4 d0 d1 d2 d3 d4 HD3 HB3
  go_upto_region 6 with fail
  generalize hW5 : w4.alloc (.cells #[.string u1.kind, .string u1.text, .slice E1 x1 y1, .slice E2 x2 y2, .slice E3 u1.kids.length y3] 31) = W5
  have hb5 : Below w4.heap.size w4 W5 := by subst hW5; exact below_one _ _
  have HA5 : Hid (W5.heap[w4.heap.size]? = some (.cells #[.string u1.kind, .string u1.text, .slice E1 x1 y1, .slice E2 x2 y2, .slice E3 u1.kids.length y3] 31)) := Lib.hid (by subst hW5; exact heap_new _ _)
  have HD5 := Lib.hid (keepb hb5 HD4.out)
  have HB5 := Lib.hid (belowNext HB4.out hb5)
  have HN5 := Lib.hid (node_on HN4.out hb5)
  clear hW5 hb5 HD4 HB4 HN4
  obtain ⟨d0, d1, d2, d3, d4⟩ := cells5 HD5.out
  go_wp2_with fail
  refine (HI2.out W5 HB5.out).mono ?_
  rintro e w6 ⟨F1, f1, g1, F2, f2, g2, F3, g3, rfl, hn6, hb6⟩
  simp only at hn6
  have HD6 := Lib.hid (keepb hb6 HD5.out)
  have HA6 := Lib.hid (keepb hb6 HA5.out)
  have HB6 := Lib.hid (belowNext HB5.out hb6)
  have HN6 := Lib.hid (node_on HN5.out hb6)
  have HM6 := Lib.hid hn6
  clear hb6 hn6 d0 d1 d2 d3 d4 HD5 HB5 HA5 HN5
  go_upto_region 7 with fail
  generalize hW7 : w6.alloc (.cells #[.string u1.kind, .string u1.text, .slice F1 f1 g1, .slice F2 f2 g2, .slice F3 u1.kids.length g3] 31) = W7
  have hb7 : Below w6.heap.size w6 W7 := by subst hW7; exact below_one _ _
  have HE7 : Hid (W7.heap[w6.heap.size]? = some (.cells #[.string u1.kind, .string u1.text, .slice F1 f1 g1, .slice F2 f2 g2, .slice F3 u1.kids.length g3] 31)) := Lib.hid (by subst hW7; exact heap_new _ _)
  have HD7 := Lib.hid (keepb hb7 HD6.out)
  have HA7 := Lib.hid (keepb hb7 HA6.out)
  have HB7 := Lib.hid (belowNext HB6.out hb7)
  have HN7 := Lib.hid (node_on HN6.out hb7)
  have HM7 := Lib.hid (node_on HM6.out hb7)
  clear hW7 hb7 HD6 HB6 HA6 HN6 HM6
  obtain ⟨d0, d1, d2, d3, d4⟩ := cells5 HD7.out
  go_wp2_with fail
  refine (HS1.out W7 HB7.out).mono ?_
  rintro e w8 ⟨rfl, hb8⟩
  have HD8 := Lib.hid (keepb hb8 HD7.out)
  have HA8 := Lib.hid (keepb hb8 HA7.out)
  have HE8 := Lib.hid (keepb hb8 HE7.out)
  have HB8 := Lib.hid (belowNext HB7.out hb8)
  have HN8 := Lib.hid (node_on HN7.out hb8)
  have HM8 := Lib.hid (node_on HM7.out hb8)
  clear hb8 d0 d1 d2 d3 d4 HD7 HB7 HA7 HE7 HN7 HM7
  obtain ⟨d0, d1, d2, d3, d4⟩ := cells5 HD8.out
  go_wp2_with fail
  refine (HS2.out w8 HB8.out).mono ?_
  rintro e w9 ⟨rfl, hb9⟩
  have HD9 := Lib.hid (keepb hb9 HD8.out)
  have HA9 := Lib.hid (keepb hb9 HA8.out)
  have HE9 := Lib.hid (keepb hb9 HE8.out)
  have HB9 := Lib.hid (belowNext HB8.out hb9)
  have HN9 := Lib.hid (node_on HN8.out hb9)
  have HM9 := Lib.hid (node_on HM8.out hb9)
  clear hb9 d0 d1 d2 d3 d4 HD8 HB8 HA8 HE8 HN8 HM8
  obtain ⟨d0, d1, d2, d3, d4⟩ := cells5 HD9.out
  clear HI1 HI2 HS1 HS2
  clear d0 d1 d2 d3 d4
  go_upto_region 9 with fail
  obtain ⟨W9, rfl⟩ : ∃ W : World, W = w9 := ⟨_, rfl⟩
  have HSQA : Hid (∀ W', Below W9.heap.size W9 W' → (fun w' => w'.cell? ⟨w2.heap.size, 0, none⟩ = some (.string ⟨#[100, 111, 99]⟩) ∧ w'.cell? ⟨w2.heap.size, 1, none⟩ = some (.string ⟨#[]⟩) ∧ w'.cell? ⟨w2.heap.size, 2, none⟩ = some (.slice none 0 0) ∧ w'.cell? ⟨w2.heap.size, 3, none⟩ = some (.slice none 0 0) ∧ w'.cell? ⟨w2.heap.size, 4, none⟩ = some (.slice A (madeB l).length c)) W') := Lib.hid fun W' hW => cells5 (keepb hW HD9.out)
  have BD0A : Hid (Below W9.heap.size W9 W9.drew) := Lib.hid (Below.refl _ _).drew
  have BD1A : Hid (Below W9.heap.size W9 ((W9.alloc ZNodeR).drew)) := Lib.hid (below_one _ _).drew
  have LTA : Hid (w2.heap.size < W9.heap.size) := Lib.hid (heap_lt' HD9.out)
  have ZSA : Hid (((W9.alloc ZNodeR).drew).heap.size = W9.heap.size + 1) := Lib.hid (show (W9.heap.push _).size = _ by simp)
  have ZZA : Hid (((W9.alloc ZNodeR).drew).heap[W9.heap.size]? = some ZNodeR) := Lib.hid (show (W9.alloc ZNodeR).heap[W9.heap.size]? = _ from heap_new _ _)
  go_cut [17, 18] (fun s17 s18 wx => XMid W9 u2 n2 s17 s18 wx)
  case first =>
    go_region_held_law (fun w' => w'.cell? ⟨w2.heap.size, 0, none⟩ = some (.string ⟨#[100, 111, 99]⟩) ∧ w'.cell? ⟨w2.heap.size, 1, none⟩ = some (.string ⟨#[]⟩) ∧ w'.cell? ⟨w2.heap.size, 2, none⟩ = some (.slice none 0 0) ∧ w'.cell? ⟨w2.heap.size, 3, none⟩ = some (.slice none 0 0) ∧ w'.cell? ⟨w2.heap.size, 4, none⟩ = some (.slice A (madeB l).length c)) (first | with_reducible exact HSQA.out _ BD0A.out | with_reducible exact HSQA.out _ BD1A.out | with_reducible exact HSQA.out _ HBb.out | with_reducible exact HSQA.out _ (HBb.out.alloc HBb.out.size _) | with_reducible exact HSQA.out _ HBa.out | with_reducible exact HSQA.out _ (HBa.out.alloc HBa.out.size _) | exact HSQA.out _ (put5z_below HGb.out HBb.out)) (first
      | ((with_reducible refine step_doc4 (v1 := vk) (w := W9.drew) rfl (.tmp 59) rfl rfl (HDK.out _ (belowNext HB9.out BD0A.out)) ?_); rintro e w10 ⟨B, d, rfl, hk, hb⟩; refine ⟨_, rfl, ?_⟩; have HBa := Lib.hid (BD0A.out.trans hb); have HKa : Hid (Kids w10 (From W9.heap.size w10.heap.size) (.slice B (madeB k).length d) (madeB k)) := Lib.hid hk; have HLa : Hid (w2.heap.size < w10.heap.size) := Lib.hid (Nat.lt_of_lt_of_le LTA.out HBa.out.size); have HKz : Hid (Kids (w10.alloc ZNodeR) (From W9.heap.size w10.heap.size) (.slice B (madeB k).length d) (madeB k)) := Lib.hid (hk.keep (fun _ h => h) fun b h => (below_one w10 ZNodeR).block b h.2); clear hk hb)
      | ((with_reducible refine step_doc4 (v1 := vk) (w := (W9.alloc ZNodeR).drew) rfl (.tmp 59) rfl rfl (HDK.out _ (belowNext HB9.out BD1A.out)) ?_); rintro e w10 ⟨B, d, rfl, hk, hb⟩; refine ⟨_, rfl, ?_⟩; rw [ZSA.out] at hk; have HBa := Lib.hid (BD1A.out.trans (hb.mono BD1A.out.size)); have HKa : Hid (Kids w10 (From (W9.heap.size + 1) w10.heap.size) (.slice B (madeB k).length d) (madeB k)) := Lib.hid hk; have HZa : Hid (w10.heap[W9.heap.size]? = some ZNodeR) := Lib.hid (keepb hb ZZA.out); have HGa : Hid (W9.heap.size < w10.heap.size) := Lib.hid (heap_lt' HZa.out); clear hk hb)
      | ((with_reducible refine step_pwith (v1 := (.agg (docCells A (madeB l).length c))) (v2 := .slice Ap ps.length cp) (v3 := .agg (docCells B (madeB k).length d)) (w := w10.alloc ZNodeR) rfl (.tmp 57) (.tmp 58) (.tmp 60) rfl rfl rfl rfl (HW1.out (w10.alloc ZNodeR) B d w10.heap.size W9.heap.size w10.heap.size (belowNext HB9.out (HBa.out.alloc HBa.out.size _)) (Nat.le_of_lt HLa.out) (heap_lt' (heap_new w10 ZNodeR)) (below_one w10 ZNodeR).size (.inr (Nat.le_refl _)) HKz.out) ?_); rintro e w11 ⟨A1, n1', c1, A2, n2', c2, A3, c3, rfl, hn, hb⟩; refine ⟨_, rfl, ?_⟩; simp only at hn ⊢; have HBb := Lib.hid ((HBa.out.alloc HBa.out.size ZNodeR).trans (hb.mono (HBa.out.alloc HBa.out.size ZNodeR).size)); have HNb := Lib.hid hn; have HZb : Hid (w11.heap[w10.heap.size]? = some ZNodeR) := Lib.hid (keepb hb (heap_new w10 ZNodeR)); have HGb : Hid (W9.heap.size ≤ w10.heap.size) := Lib.hid HBa.out.size; obtain ⟨z0, z1, z2, z3, z4⟩ := cells5 HZb.out; have b0 := frozen_of_row _ _ 0 _ _ HZb.out; have b1 := frozen_of_row _ _ 1 _ _ HZb.out; have b2 := frozen_of_row _ _ 2 _ _ HZb.out; have b3 := frozen_of_row _ _ 3 _ _ HZb.out; have b4 := frozen_of_row _ _ 4 _ _ HZb.out; clear hn hb)
      | ((with_reducible refine step_pwith (v1 := (.agg (docCells A (madeB l).length c))) (v2 := .slice Ap ps.length cp) (v3 := .agg (docCells B (madeB k).length d)) (w := w10) rfl (.tmp 57) (.tmp 58) (.tmp 60) rfl rfl rfl rfl (HW1.out w10 B d W9.heap.size (W9.heap.size + 1) w10.heap.size (belowNext HB9.out HBa.out) (Nat.le_of_lt LTA.out) HGa.out (Nat.le_refl _) (.inl (Nat.lt_succ_self _)) HKa.out) ?_); rintro e w11 ⟨A1, n1', c1, A2, n2', c2, A3, c3, rfl, hn, hb⟩; refine ⟨_, rfl, ?_⟩; simp only at hn ⊢; have HBb := Lib.hid (belowNext HBa.out hb); have HNb := Lib.hid hn; have HZb : Hid (w11.heap[W9.heap.size]? = some ZNodeR) := Lib.hid (keepb hb HZa.out); have HGb : Hid (W9.heap.size ≤ W9.heap.size) := Lib.hid (Nat.le_refl _); obtain ⟨z0, z1, z2, z3, z4⟩ := cells5 HZb.out; have b0 := frozen_of_row _ _ 0 _ _ HZb.out; have b1 := frozen_of_row _ _ 1 _ _ HZb.out; have b2 := frozen_of_row _ _ 2 _ _ HZb.out; have b3 := frozen_of_row _ _ 3 _ _ HZb.out; have b4 := frozen_of_row _ _ 4 _ _ HZb.out; clear hn hb)
      | ((with_reducible refine step_pwith (v1 := (.agg (docCells A (madeB l).length c))) (v2 := .slice Ap ps.length cp) (v3 := .agg (docCells B (madeB k).length d)) (w := w10) rfl (.tmp 57) (.tmp 58) (.tmp 60) rfl rfl rfl rfl (HW1.out w10 B d w2.heap.size W9.heap.size w10.heap.size (belowNext HB9.out HBa.out) (Nat.le_refl _) HLa.out (Nat.le_refl _) (.inl LTA.out) HKa.out) ?_); rintro e w11 ⟨A1, n1', c1, A2, n2', c2, A3, c3, rfl, hn, hb⟩; refine ⟨_, rfl, ?_⟩; simp only at hn ⊢; have HBb := Lib.hid (belowNext HBa.out hb); have HNb := Lib.hid hn; clear hn hb))
    all_goals
      go_wp2_with fail
      go_meet
      first
        | with_reducible exact xmid_put HGb.out HBb.out HZb.out HNb.out
        | with_reducible exact xmid_new HBb.out HNb.out
  case rest =>
  obtain ⟨GX, X1, i1, j1, X2, i2, j2, X3, j3, rfl, rfl, hgx, hnx, hbx⟩ := hcut
  obtain ⟨W10, rfl⟩ : ∃ W : World, W = wc := ⟨_, rfl⟩
  have HX10 := Lib.hid hgx
  have HNX10 := Lib.hid hnx
  have HD10 := Lib.hid (keepb hbx HD9.out)
  have HA10 := Lib.hid (keepb hbx HA9.out)
  have HE10 := Lib.hid (keepb hbx HE9.out)
  have HB10 := Lib.hid (belowNext HB9.out hbx)
  have HN10 := Lib.hid (node_on HN9.out hbx)
  have HM10 := Lib.hid (node_on HM9.out hbx)
  clear hgx hnx hbx HD9 HA9 HE9 HB9 HN9 HM9 HSQA BD0A BD1A LTA ZSA ZZA HW1
  go_upto_region 10 with fail
  have HSQB : Hid (∀ W', Below W10.heap.size W10 W' → (fun w' => w'.cell? ⟨w2.heap.size, 0, none⟩ = some (.string ⟨#[100, 111, 99]⟩) ∧ w'.cell? ⟨w2.heap.size, 1, none⟩ = some (.string ⟨#[]⟩) ∧ w'.cell? ⟨w2.heap.size, 2, none⟩ = some (.slice none 0 0) ∧ w'.cell? ⟨w2.heap.size, 3, none⟩ = some (.slice none 0 0) ∧ w'.cell? ⟨w2.heap.size, 4, none⟩ = some (.slice A (madeB l).length c)) W') := Lib.hid fun W' hW => cells5 (keepb hW HD10.out)
  have BD0B : Hid (Below W10.heap.size W10 W10.drew) := Lib.hid (Below.refl _ _).drew
  have BD1B : Hid (Below W10.heap.size W10 ((W10.alloc ZNodeR).drew)) := Lib.hid (below_one _ _).drew
  have LTB : Hid (w2.heap.size < W10.heap.size) := Lib.hid (heap_lt' HD10.out)
  have ZSB : Hid (((W10.alloc ZNodeR).drew).heap.size = W10.heap.size + 1) := Lib.hid (show (W10.heap.push _).size = _ by simp)
  have ZZB : Hid (((W10.alloc ZNodeR).drew).heap[W10.heap.size]? = some ZNodeR) := Lib.hid (show (W10.alloc ZNodeR).heap[W10.heap.size]? = _ from heap_new _ _)
  go_cut [19, 20] (fun s17 s18 wx => XMid W10 u2 n2 s17 s18 wx)
  case first =>
    go_region_held_law (fun w' => w'.cell? ⟨w2.heap.size, 0, none⟩ = some (.string ⟨#[100, 111, 99]⟩) ∧ w'.cell? ⟨w2.heap.size, 1, none⟩ = some (.string ⟨#[]⟩) ∧ w'.cell? ⟨w2.heap.size, 2, none⟩ = some (.slice none 0 0) ∧ w'.cell? ⟨w2.heap.size, 3, none⟩ = some (.slice none 0 0) ∧ w'.cell? ⟨w2.heap.size, 4, none⟩ = some (.slice A (madeB l).length c)) (first | with_reducible exact HSQB.out _ BD0B.out | with_reducible exact HSQB.out _ BD1B.out | with_reducible exact HSQB.out _ HBb.out | with_reducible exact HSQB.out _ (HBb.out.alloc HBb.out.size _) | with_reducible exact HSQB.out _ HBa.out | with_reducible exact HSQB.out _ (HBa.out.alloc HBa.out.size _) | exact HSQB.out _ (put5z_below HGb.out HBb.out)) (first
      | ((with_reducible refine step_doc4 (v1 := vk) (w := W10.drew) rfl (.tmp 67) rfl rfl (HDK.out _ (belowNext HB10.out BD0B.out)) ?_); rintro e w10 ⟨B, d, rfl, hk, hb⟩; refine ⟨_, rfl, ?_⟩; have HBa := Lib.hid (BD0B.out.trans hb); have HKa : Hid (Kids w10 (From W10.heap.size w10.heap.size) (.slice B (madeB k).length d) (madeB k)) := Lib.hid hk; have HLa : Hid (w2.heap.size < w10.heap.size) := Lib.hid (Nat.lt_of_lt_of_le LTB.out HBa.out.size); have HKz : Hid (Kids (w10.alloc ZNodeR) (From W10.heap.size w10.heap.size) (.slice B (madeB k).length d) (madeB k)) := Lib.hid (hk.keep (fun _ h => h) fun b h => (below_one w10 ZNodeR).block b h.2); clear hk hb)
      | ((with_reducible refine step_doc4 (v1 := vk) (w := (W10.alloc ZNodeR).drew) rfl (.tmp 67) rfl rfl (HDK.out _ (belowNext HB10.out BD1B.out)) ?_); rintro e w10 ⟨B, d, rfl, hk, hb⟩; refine ⟨_, rfl, ?_⟩; rw [ZSB.out] at hk; have HBa := Lib.hid (BD1B.out.trans (hb.mono BD1B.out.size)); have HKa : Hid (Kids w10 (From (W10.heap.size + 1) w10.heap.size) (.slice B (madeB k).length d) (madeB k)) := Lib.hid hk; have HZa : Hid (w10.heap[W10.heap.size]? = some ZNodeR) := Lib.hid (keepb hb ZZB.out); have HGa : Hid (W10.heap.size < w10.heap.size) := Lib.hid (heap_lt' HZa.out); clear hk hb)
      | ((with_reducible refine step_qwith (v1 := (.agg (docCells A (madeB l).length c))) (v2 := .slice Ap ps.length cp) (v3 := .agg (docCells B (madeB k).length d)) (w := w10.alloc ZNodeR) rfl (.tmp 65) (.tmp 66) (.tmp 68) rfl rfl rfl rfl (HW2.out (w10.alloc ZNodeR) B d w10.heap.size W10.heap.size w10.heap.size (belowNext HB10.out (HBa.out.alloc HBa.out.size _)) (Nat.le_of_lt HLa.out) (heap_lt' (heap_new w10 ZNodeR)) (below_one w10 ZNodeR).size (.inr (Nat.le_refl _)) HKz.out) ?_); rintro e w11 ⟨A1, n1', c1, A2, n2', c2, A3, c3, rfl, hn, hb⟩; refine ⟨_, rfl, ?_⟩; simp only at hn ⊢; have HBb := Lib.hid ((HBa.out.alloc HBa.out.size ZNodeR).trans (hb.mono (HBa.out.alloc HBa.out.size ZNodeR).size)); have HNb := Lib.hid hn; have HZb : Hid (w11.heap[w10.heap.size]? = some ZNodeR) := Lib.hid (keepb hb (heap_new w10 ZNodeR)); have HGb : Hid (W10.heap.size ≤ w10.heap.size) := Lib.hid HBa.out.size; obtain ⟨z0, z1, z2, z3, z4⟩ := cells5 HZb.out; have b0 := frozen_of_row _ _ 0 _ _ HZb.out; have b1 := frozen_of_row _ _ 1 _ _ HZb.out; have b2 := frozen_of_row _ _ 2 _ _ HZb.out; have b3 := frozen_of_row _ _ 3 _ _ HZb.out; have b4 := frozen_of_row _ _ 4 _ _ HZb.out; clear hn hb)
      | ((with_reducible refine step_qwith (v1 := (.agg (docCells A (madeB l).length c))) (v2 := .slice Ap ps.length cp) (v3 := .agg (docCells B (madeB k).length d)) (w := w10) rfl (.tmp 65) (.tmp 66) (.tmp 68) rfl rfl rfl rfl (HW2.out w10 B d W10.heap.size (W10.heap.size + 1) w10.heap.size (belowNext HB10.out HBa.out) (Nat.le_of_lt LTB.out) HGa.out (Nat.le_refl _) (.inl (Nat.lt_succ_self _)) HKa.out) ?_); rintro e w11 ⟨A1, n1', c1, A2, n2', c2, A3, c3, rfl, hn, hb⟩; refine ⟨_, rfl, ?_⟩; simp only at hn ⊢; have HBb := Lib.hid (belowNext HBa.out hb); have HNb := Lib.hid hn; have HZb : Hid (w11.heap[W10.heap.size]? = some ZNodeR) := Lib.hid (keepb hb HZa.out); have HGb : Hid (W10.heap.size ≤ W10.heap.size) := Lib.hid (Nat.le_refl _); obtain ⟨z0, z1, z2, z3, z4⟩ := cells5 HZb.out; have b0 := frozen_of_row _ _ 0 _ _ HZb.out; have b1 := frozen_of_row _ _ 1 _ _ HZb.out; have b2 := frozen_of_row _ _ 2 _ _ HZb.out; have b3 := frozen_of_row _ _ 3 _ _ HZb.out; have b4 := frozen_of_row _ _ 4 _ _ HZb.out; clear hn hb)
      | ((with_reducible refine step_qwith (v1 := (.agg (docCells A (madeB l).length c))) (v2 := .slice Ap ps.length cp) (v3 := .agg (docCells B (madeB k).length d)) (w := w10) rfl (.tmp 65) (.tmp 66) (.tmp 68) rfl rfl rfl rfl (HW2.out w10 B d w2.heap.size W10.heap.size w10.heap.size (belowNext HB10.out HBa.out) (Nat.le_refl _) HLa.out (Nat.le_refl _) (.inl LTB.out) HKa.out) ?_); rintro e w11 ⟨A1, n1', c1, A2, n2', c2, A3, c3, rfl, hn, hb⟩; refine ⟨_, rfl, ?_⟩; simp only at hn ⊢; have HBb := Lib.hid (belowNext HBa.out hb); have HNb := Lib.hid hn; clear hn hb))
    all_goals
      go_wp2_with fail
      go_meet
      first
        | with_reducible exact xmid_put HGb.out HBb.out HZb.out HNb.out
        | with_reducible exact xmid_new HBb.out HNb.out
  case rest =>
  obtain ⟨GY, Y1, i1', j1', Y2, i2', j2', Y3, j3', rfl, rfl, hgx, hnx, hbx⟩ := hcut
  obtain ⟨W11, rfl⟩ : ∃ W : World, W = wc := ⟨_, rfl⟩
  have HY11 := Lib.hid hgx
  have HNY11 := Lib.hid hnx
  have HX11 := Lib.hid (keepb hbx HX10.out)
  have HD11 := Lib.hid (keepb hbx HD10.out)
  have HA11 := Lib.hid (keepb hbx HA10.out)
  have HE11 := Lib.hid (keepb hbx HE10.out)
  have HB11 := Lib.hid (belowNext HB10.out hbx)
  have HNX11 := Lib.hid (node_on HNX10.out hbx)
  have HN11 := Lib.hid (node_on HN10.out hbx)
  have HM11 := Lib.hid (node_on HM10.out hbx)
  clear hgx hnx hbx HD10 HA10 HE10 HB10 HN10 HM10 HX10 HNX10 HSQB BD0B BD1B LTB ZSB ZZB HW2
  go_upto_region 11 with fail
  have hq1 := HQ.out.1
  have hq2 := HQ.out.2.1
  have hq3 := HQ.out.2.2
  have HSQ : Hid (∀ W', Below W11.heap.size W11 W' → (fun w' => w'.cell? ⟨w4.heap.size, 0, none⟩ = some (.string u1.kind) ∧ w'.cell? ⟨w4.heap.size, 1, none⟩ = some (.string u1.text) ∧ w'.cell? ⟨w4.heap.size, 2, none⟩ = some (.slice E1 x1 y1) ∧ w'.cell? ⟨w4.heap.size, 3, none⟩ = some (.slice E2 x2 y2) ∧ w'.cell? ⟨w4.heap.size, 4, none⟩ = some (.slice E3 u1.kids.length y3) ∧ w'.cell? ⟨w6.heap.size, 0, none⟩ = some (.string u1.kind) ∧ w'.cell? ⟨w6.heap.size, 1, none⟩ = some (.string u1.text) ∧ w'.cell? ⟨w6.heap.size, 2, none⟩ = some (.slice F1 f1 g1) ∧ w'.cell? ⟨w6.heap.size, 3, none⟩ = some (.slice F2 f2 g2) ∧ w'.cell? ⟨w6.heap.size, 4, none⟩ = some (.slice F3 u1.kids.length g3) ∧ w'.cell? ⟨GX, 0, none⟩ = some (.string u2.kind) ∧ w'.cell? ⟨GX, 1, none⟩ = some (.string u2.text) ∧ w'.cell? ⟨GX, 2, none⟩ = some (.slice X1 i1 j1) ∧ w'.cell? ⟨GX, 3, none⟩ = some (.slice X2 i2 j2) ∧ w'.cell? ⟨GX, 4, none⟩ = some (.slice X3 u2.kids.length j3) ∧ w'.cell? ⟨GY, 0, none⟩ = some (.string u2.kind) ∧ w'.cell? ⟨GY, 1, none⟩ = some (.string u2.text) ∧ w'.cell? ⟨GY, 2, none⟩ = some (.slice Y1 i1' j1') ∧ w'.cell? ⟨GY, 3, none⟩ = some (.slice Y2 i2' j2') ∧ w'.cell? ⟨GY, 4, none⟩ = some (.slice Y3 u2.kids.length j3') ∧ w'.cell? ⟨w2.heap.size, 0, none⟩ = some (.string ⟨#[100, 111, 99]⟩) ∧ w'.cell? ⟨w2.heap.size, 1, none⟩ = some (.string ⟨#[]⟩) ∧ w'.cell? ⟨w2.heap.size, 2, none⟩ = some (.slice none 0 0) ∧ w'.cell? ⟨w2.heap.size, 3, none⟩ = some (.slice none 0 0) ∧ w'.cell? ⟨w2.heap.size, 4, none⟩ = some (.slice A (madeB l).length c)) W') := Lib.hid fun W' hW => by
    obtain ⟨p0, p1, p2, p3, p4⟩ := cells5 (keepb hW HA11.out)
    obtain ⟨q0, q1, q2, q3, q4⟩ := cells5 (keepb hW HE11.out)
    obtain ⟨r0, r1, r2, r3, r4⟩ := cells5 (keepb hW HX11.out)
    obtain ⟨s0, s1, s2, s3, s4⟩ := cells5 (keepb hW HY11.out)
    obtain ⟨t0, t1, t2, t3, t4⟩ := cells5 (keepb hW HD11.out)
    exact ⟨p0, p1, p2, p3, p4, q0, q1, q2, q3, q4, r0, r1, r2, r3, r4, s0, s1, s2, s3, s4, t0, t1, t2, t3, t4⟩
  have BD : Hid (Below W11.heap.size W11 W11.drew) := Lib.hid (Below.refl _ _).drew
  have HSab : Hid (∀ W, Below W11.heap.size W11 W → Calls Try.prog 19 #[(.agg #[.string u1.kind, .string u1.text, .slice E1 x1 y1, .slice E2 x2 y2, .slice E3 u1.kids.length y3]), (.agg #[.string u1.kind, .string u1.text, .slice F1 f1 g1, .slice F2 f2 g2, .slice F3 u1.kids.length g3])] W fun e w' => e = .returned (.bool true) ∧ Below W.heap.size W w') := Lib.hid fun W hW => same_alike u1 _ _ W (by omega) (node_on HN11.out hW) (node_on HM11.out hW)
  have HSxy : Hid (∀ W, Below W11.heap.size W11 W → Calls Try.prog 19 #[(.agg #[.string u2.kind, .string u2.text, .slice X1 i1 j1, .slice X2 i2 j2, .slice X3 u2.kids.length j3]), (.agg #[.string u2.kind, .string u2.text, .slice Y1 i1' j1', .slice Y2 i2' j2', .slice Y3 u2.kids.length j3'])] W fun e w' => e = .returned (.bool true) ∧ Below W.heap.size W w') := Lib.hid fun W hW => same_alike u2 _ _ W (by omega) (node_on HNX11.out hW) (node_on HNY11.out hW)
  have HSnd : Hid (∀ W B d, Below W11.heap.size W11 W → Kids W (Under W.heap.size) (.slice B (madeB l).length d) (madeB l) → Calls Try.prog 19 #[(.agg #[.string ⟨#[100, 111, 99]⟩, .string ⟨#[]⟩, .slice none 0 0, .slice none 0 0, .slice A (madeB l).length c]), .agg (docCells B (madeB l).length d)] W fun e w' => e = .returned (.bool true) ∧ Below W.heap.size W w') := Lib.hid fun W B d hW hk => same_alike (docB l) _ _ W (by omega) (HND.out W (belowNext HB11.out hW)) (doc_node hk)
  have HDL2 : Hid (∀ W, Below W11.heap.size W11 W → Calls Try.prog 6 #[v] W fun e w' => ∃ B d, e = .returned (.agg (docCells B (madeB l).length d)) ∧ Kids w' (Under w'.heap.size) (.slice B (madeB l).length d) (madeB l) ∧ Below W.heap.size W w') := Lib.hid fun W hW => HDL.out W (belowNext HB11.out hW)
  clear hq1 hq2 hq3 HDL HDK HND HQ HK2
  refine wp_region_held_drew (S := (fun w' => w'.cell? ⟨w4.heap.size, 0, none⟩ = some (.string u1.kind) ∧ w'.cell? ⟨w4.heap.size, 1, none⟩ = some (.string u1.text) ∧ w'.cell? ⟨w4.heap.size, 2, none⟩ = some (.slice E1 x1 y1) ∧ w'.cell? ⟨w4.heap.size, 3, none⟩ = some (.slice E2 x2 y2) ∧ w'.cell? ⟨w4.heap.size, 4, none⟩ = some (.slice E3 u1.kids.length y3) ∧ w'.cell? ⟨w6.heap.size, 0, none⟩ = some (.string u1.kind) ∧ w'.cell? ⟨w6.heap.size, 1, none⟩ = some (.string u1.text) ∧ w'.cell? ⟨w6.heap.size, 2, none⟩ = some (.slice F1 f1 g1) ∧ w'.cell? ⟨w6.heap.size, 3, none⟩ = some (.slice F2 f2 g2) ∧ w'.cell? ⟨w6.heap.size, 4, none⟩ = some (.slice F3 u1.kids.length g3) ∧ w'.cell? ⟨GX, 0, none⟩ = some (.string u2.kind) ∧ w'.cell? ⟨GX, 1, none⟩ = some (.string u2.text) ∧ w'.cell? ⟨GX, 2, none⟩ = some (.slice X1 i1 j1) ∧ w'.cell? ⟨GX, 3, none⟩ = some (.slice X2 i2 j2) ∧ w'.cell? ⟨GX, 4, none⟩ = some (.slice X3 u2.kids.length j3) ∧ w'.cell? ⟨GY, 0, none⟩ = some (.string u2.kind) ∧ w'.cell? ⟨GY, 1, none⟩ = some (.string u2.text) ∧ w'.cell? ⟨GY, 2, none⟩ = some (.slice Y1 i1' j1') ∧ w'.cell? ⟨GY, 3, none⟩ = some (.slice Y2 i2' j2') ∧ w'.cell? ⟨GY, 4, none⟩ = some (.slice Y3 u2.kids.length j3') ∧ w'.cell? ⟨w2.heap.size, 0, none⟩ = some (.string ⟨#[100, 111, 99]⟩) ∧ w'.cell? ⟨w2.heap.size, 1, none⟩ = some (.string ⟨#[]⟩) ∧ w'.cell? ⟨w2.heap.size, 2, none⟩ = some (.slice none 0 0) ∧ w'.cell? ⟨w2.heap.size, 3, none⟩ = some (.slice none 0 0) ∧ w'.cell? ⟨w2.heap.size, 4, none⟩ = some (.slice A (madeB l).length c))) (by kernel_rfl) (HSQ.out _ BD.out) (fun hHeld => ?_)
  refine wpAnyH_take (i := 0) (oi := { dst := some 72, op := Op.load 31 (Operand.tmp 9), type := 31, pos := "law.go:97", after := #[], guard := none }) (v := ?_) rfl (by kernel_rfl) (by kernel_rfl) (by kernel_rfl) (fun _ _ _ h => h) (Or.inl ⟨by rfl, ?_⟩) hHeld ?_
  rotate_left
  · intro wz hSw
    try dsimp only at hSw
    go_simp
    all_goals with_reducible rfl
  try simp only [Act.put, List.setIfInBounds_toArray, List.set_cons_zero, List.set_cons_succ]
  refine wpAnyH_take (i := 1) (oi := { dst := some 73, op := Op.load 31 (Operand.tmp 11), type := 31, pos := "law.go:97", after := #[], guard := none }) (v := ?_) rfl (by kernel_rfl) (by kernel_rfl) (by kernel_rfl) (fun _ _ _ h => h) (Or.inl ⟨by rfl, ?_⟩) hHeld ?_
  rotate_left
  · intro wz hSw
    try dsimp only at hSw
    go_simp
    all_goals with_reducible rfl
  try simp only [Act.put, List.setIfInBounds_toArray, List.set_cons_zero, List.set_cons_succ]
  refine wpAnyH_ready (rs := [2]) (by kernel_rfl) (by simp) ?_
  refine AllReadyH.cons (o := { dst := some 74, op := Op.call { callee := Callee.value (Operand.func 19), args := #[Operand.tmp 72, Operand.tmp 73], argTypes := #[31, 31] }, type := 4, pos := "law.go:97", after := #[{ on := 0, ground := Ground.data }, { on := 1, ground := Ground.data }], guard := none }) rfl (fun K hK => ?_) AllReadyH.nil
  (with_reducible refine step_same4 (v1 := (.agg #[.string u1.kind, .string u1.text, .slice E1 x1 y1, .slice E2 x2 y2, .slice E3 u1.kids.length y3])) (v2 := (.agg #[.string u1.kind, .string u1.text, .slice F1 f1 g1, .slice F2 f2 g2, .slice F3 u1.kids.length g3])) (w := W11.drew) rfl (.tmp 72) (.tmp 73) rfl rfl rfl (HSab.out _ BD.out) ?_)
  rintro e w12 ⟨rfl, hb⟩
  refine ⟨_, rfl, ?_⟩
  have HBp := Lib.hid (BD.out.trans hb)
  clear hb
  clear hHeld
  refine hK.out _ _ (HSQ.out _ HBp.out) (fun hHeld => ?_)
  clear hK K
  try simp only [Act.put, List.setIfInBounds_toArray, List.set_cons_zero, List.set_cons_succ]
  refine wpAnyH_take (i := 3) (oi := { dst := some 75, op := Op.move (Operand.tmp 74), type := 4, pos := "law.go:97", after := #[{ on := 2, ground := Ground.data }, { on := 2, ground := Ground.chain }], guard := none }) (v := ?_) rfl (by kernel_rfl) (by kernel_rfl) (by kernel_rfl) (fun _ _ _ h => h) (Or.inl ⟨by rfl, ?_⟩) hHeld ?_
  rotate_left
  · intro wz _
    go_simp
    all_goals with_reducible rfl
  try simp only [Act.put, List.setIfInBounds_toArray, List.set_cons_zero, List.set_cons_succ]
  refine wpAnyH_take (i := 4) (oi := { dst := some 76, op := Op.move (Operand.tmp 10), type := 33, pos := "law.go:97", after := #[{ on := 3, ground := Ground.guard }], guard := some (3, true) }) (v := ?_) rfl (by kernel_rfl) (by kernel_rfl) (by kernel_rfl) (fun _ _ _ h => h) (Or.inl ⟨by rfl, ?_⟩) hHeld ?_
  rotate_left
  · intro wz _
    go_simp
    all_goals with_reducible rfl
  try simp only [Act.put, List.setIfInBounds_toArray, List.set_cons_zero, List.set_cons_succ]
  refine wpAnyH_take (i := 5) (oi := { dst := some 77, op := Op.move (Operand.tmp 12), type := 33, pos := "law.go:97", after := #[{ on := 3, ground := Ground.guard }], guard := some (3, true) }) (v := ?_) rfl (by kernel_rfl) (by kernel_rfl) (by kernel_rfl) (fun _ _ _ h => h) (Or.inl ⟨by rfl, ?_⟩) hHeld ?_
  rotate_left
  · intro wz _
    go_simp
    all_goals with_reducible rfl
  try simp only [Act.put, List.setIfInBounds_toArray, List.set_cons_zero, List.set_cons_succ]
  refine wpAnyH_take (i := 6) (oi := { dst := some 78, op := Op.binOp BinOp.eql 33 (Operand.tmp 76) (Operand.tmp 77) 33, type := 4, pos := "law.go:97", after := #[{ on := 4, ground := Ground.data }, { on := 5, ground := Ground.data }, { on := 3, ground := Ground.guard }], guard := some (3, true) }) (v := ?_) rfl (by kernel_rfl) (by kernel_rfl) (by kernel_rfl) (fun _ _ _ h => h) (Or.inl ⟨by rfl, ?_⟩) hHeld ?_
  rotate_left
  · intro wz _
    go_simp
    all_goals with_reducible rfl
  try simp only [Act.put, List.setIfInBounds_toArray, List.set_cons_zero, List.set_cons_succ]
  refine wpAnyH_take (i := 7) (oi := { dst := some 79, op := Op.pick (Operand.tmp 75) (Operand.tmp 78) (Operand.const (Value.bool false)), type := 4, pos := "law.go:97", after := #[{ on := 3, ground := Ground.data }, { on := 6, ground := Ground.data }], guard := none }) (v := ?_) rfl (by kernel_rfl) (by kernel_rfl) (by kernel_rfl) (fun _ _ _ h => h) (Or.inl ⟨by rfl, ?_⟩) hHeld ?_
  rotate_left
  · intro wz _
    go_simp
    all_goals with_reducible rfl
  try simp only [Act.put, List.setIfInBounds_toArray, List.set_cons_zero, List.set_cons_succ]
  refine wpAnyH_take (i := 8) (oi := { dst := some 80, op := Op.move (Operand.tmp 79), type := 4, pos := "law.go:97", after := #[{ on := 7, ground := Ground.data }, { on := 3, ground := Ground.chain }], guard := none }) (v := ?_) rfl (by kernel_rfl) (by kernel_rfl) (by kernel_rfl) (fun _ _ _ h => h) (Or.inl ⟨by rfl, ?_⟩) hHeld ?_
  rotate_left
  · intro wz _
    go_simp
    all_goals with_reducible rfl
  try simp only [Act.put, List.setIfInBounds_toArray, List.set_cons_zero, List.set_cons_succ]
  refine wpAnyH_take (i := 9) (oi := { dst := some 81, op := Op.move (Operand.tmp 13), type := 3, pos := "law.go:97", after := #[{ on := 8, ground := Ground.guard }], guard := some (8, true) }) (v := ?_) rfl (by kernel_rfl) (by kernel_rfl) (by kernel_rfl) (fun _ _ _ h => h) (Or.inl ⟨by rfl, ?_⟩) hHeld ?_
  rotate_left
  · intro wz _
    go_simp
    all_goals with_reducible rfl
  try simp only [Act.put, List.setIfInBounds_toArray, List.set_cons_zero, List.set_cons_succ]
  refine wpAnyH_take (i := 10) (oi := { dst := some 82, op := Op.move (Operand.tmp 15), type := 3, pos := "law.go:97", after := #[{ on := 8, ground := Ground.guard }], guard := some (8, true) }) (v := ?_) rfl (by kernel_rfl) (by kernel_rfl) (by kernel_rfl) (fun _ _ _ h => h) (Or.inl ⟨by rfl, ?_⟩) hHeld ?_
  rotate_left
  · intro wz _
    go_simp
    all_goals with_reducible rfl
  try simp only [Act.put, List.setIfInBounds_toArray, List.set_cons_zero, List.set_cons_succ]
  refine wpAnyH_take (i := 11) (oi := { dst := some 83, op := Op.binOp BinOp.eql 3 (Operand.tmp 81) (Operand.tmp 82) 3, type := 4, pos := "law.go:97", after := #[{ on := 9, ground := Ground.data }, { on := 10, ground := Ground.data }, { on := 8, ground := Ground.guard }], guard := some (8, true) }) (v := ?_) rfl (by kernel_rfl) (by kernel_rfl) (by kernel_rfl) (fun _ _ _ h => h) (Or.inl ⟨by rfl, ?_⟩) hHeld ?_
  rotate_left
  · intro wz _
    go_simp
    all_goals with_reducible rfl
  try simp only [Act.put, List.setIfInBounds_toArray, List.set_cons_zero, List.set_cons_succ]
  refine wpAnyH_take (i := 12) (oi := { dst := some 84, op := Op.pick (Operand.tmp 80) (Operand.tmp 83) (Operand.const (Value.bool false)), type := 4, pos := "law.go:97", after := #[{ on := 8, ground := Ground.data }, { on := 11, ground := Ground.data }], guard := none }) (v := ?_) rfl (by kernel_rfl) (by kernel_rfl) (by kernel_rfl) (fun _ _ _ h => h) (Or.inl ⟨by rfl, ?_⟩) hHeld ?_
  rotate_left
  · intro wz _
    go_simp
    all_goals with_reducible rfl
  try simp only [Act.put, List.setIfInBounds_toArray, List.set_cons_zero, List.set_cons_succ]
  refine wpAnyH_take (i := 13) (oi := { dst := some 85, op := Op.move (Operand.tmp 84), type := 4, pos := "law.go:97", after := #[{ on := 12, ground := Ground.data }, { on := 8, ground := Ground.chain }], guard := none }) (v := ?_) rfl (by kernel_rfl) (by kernel_rfl) (by kernel_rfl) (fun _ _ _ h => h) (Or.inl ⟨by rfl, ?_⟩) hHeld ?_
  rotate_left
  · intro wz _
    go_simp
    all_goals with_reducible rfl
  try simp only [Act.put, List.setIfInBounds_toArray, List.set_cons_zero, List.set_cons_succ]
  refine wpAnyH_take (i := 14) (oi := { dst := some 86, op := Op.move (Operand.tmp 14), type := 33, pos := "law.go:97", after := #[{ on := 13, ground := Ground.guard }], guard := some (13, true) }) (v := ?_) rfl (by kernel_rfl) (by kernel_rfl) (by kernel_rfl) (fun _ _ _ h => h) (Or.inl ⟨by rfl, ?_⟩) hHeld ?_
  rotate_left
  · intro wz _
    go_simp
    all_goals with_reducible rfl
  try simp only [Act.put, List.setIfInBounds_toArray, List.set_cons_zero, List.set_cons_succ]
  refine wpAnyH_take (i := 15) (oi := { dst := some 87, op := Op.move (Operand.tmp 16), type := 33, pos := "law.go:97", after := #[{ on := 13, ground := Ground.guard }], guard := some (13, true) }) (v := ?_) rfl (by kernel_rfl) (by kernel_rfl) (by kernel_rfl) (fun _ _ _ h => h) (Or.inl ⟨by rfl, ?_⟩) hHeld ?_
  rotate_left
  · intro wz _
    go_simp
    all_goals with_reducible rfl
  try simp only [Act.put, List.setIfInBounds_toArray, List.set_cons_zero, List.set_cons_succ]
  refine wpAnyH_take (i := 16) (oi := { dst := some 88, op := Op.binOp BinOp.eql 33 (Operand.tmp 86) (Operand.tmp 87) 33, type := 4, pos := "law.go:97", after := #[{ on := 14, ground := Ground.data }, { on := 15, ground := Ground.data }, { on := 13, ground := Ground.guard }], guard := some (13, true) }) (v := ?_) rfl (by kernel_rfl) (by kernel_rfl) (by kernel_rfl) (fun _ _ _ h => h) (Or.inl ⟨by rfl, ?_⟩) hHeld ?_
  rotate_left
  · intro wz _
    go_simp
    all_goals with_reducible rfl
  try simp only [Act.put, List.setIfInBounds_toArray, List.set_cons_zero, List.set_cons_succ]
  refine wpAnyH_take (i := 17) (oi := { dst := some 89, op := Op.pick (Operand.tmp 85) (Operand.tmp 88) (Operand.const (Value.bool false)), type := 4, pos := "law.go:97", after := #[{ on := 13, ground := Ground.data }, { on := 16, ground := Ground.data }], guard := none }) (v := ?_) rfl (by kernel_rfl) (by kernel_rfl) (by kernel_rfl) (fun _ _ _ h => h) (Or.inl ⟨by rfl, ?_⟩) hHeld ?_
  rotate_left
  · intro wz _
    go_simp
    all_goals with_reducible rfl
  try simp only [Act.put, List.setIfInBounds_toArray, List.set_cons_zero, List.set_cons_succ]
  refine wpAnyH_take (i := 18) (oi := { dst := some 90, op := Op.move (Operand.tmp 89), type := 4, pos := "law.go:97", after := #[{ on := 17, ground := Ground.data }, { on := 13, ground := Ground.chain }], guard := none }) (v := ?_) rfl (by kernel_rfl) (by kernel_rfl) (by kernel_rfl) (fun _ _ _ h => h) (Or.inl ⟨by rfl, ?_⟩) hHeld ?_
  rotate_left
  · intro wz _
    go_simp
    all_goals with_reducible rfl
  try simp only [Act.put, List.setIfInBounds_toArray, List.set_cons_zero, List.set_cons_succ]
  refine wpAnyH_take (i := 19) (oi := { dst := some 91, op := Op.load 31 (Operand.tmp 17), type := 31, pos := "law.go:97", after := #[{ on := 18, ground := Ground.guard }], guard := some (18, true) }) (v := ?_) rfl (by kernel_rfl) (by kernel_rfl) (by kernel_rfl) (fun _ _ _ h => h) (Or.inl ⟨by rfl, ?_⟩) hHeld ?_
  rotate_left
  · intro wz hSw
    try dsimp only at hSw
    go_simp
    all_goals with_reducible rfl
  try simp only [Act.put, List.setIfInBounds_toArray, List.set_cons_zero, List.set_cons_succ]
  refine wpAnyH_take (i := 20) (oi := { dst := some 92, op := Op.load 31 (Operand.tmp 19), type := 31, pos := "law.go:97", after := #[{ on := 18, ground := Ground.guard }], guard := some (18, true) }) (v := ?_) rfl (by kernel_rfl) (by kernel_rfl) (by kernel_rfl) (fun _ _ _ h => h) (Or.inl ⟨by rfl, ?_⟩) hHeld ?_
  rotate_left
  · intro wz hSw
    try dsimp only at hSw
    go_simp
    all_goals with_reducible rfl
  try simp only [Act.put, List.setIfInBounds_toArray, List.set_cons_zero, List.set_cons_succ]
  refine wpAnyH_ready (rs := [21]) (by kernel_rfl) (by simp) ?_
  refine AllReadyH.cons (o := { dst := some 93, op := Op.call { callee := Callee.value (Operand.func 19), args := #[Operand.tmp 91, Operand.tmp 92], argTypes := #[31, 31] }, type := 4, pos := "law.go:97", after := #[{ on := 19, ground := Ground.data }, { on := 20, ground := Ground.data }, { on := 18, ground := Ground.chain }, { on := 18, ground := Ground.guard }], guard := some (18, true) }) rfl (fun K hK => ?_) AllReadyH.nil
  (with_reducible refine step_same4g (v1 := (.agg #[.string u2.kind, .string u2.text, .slice X1 i1 j1, .slice X2 i2 j2, .slice X3 u2.kids.length j3])) (v2 := (.agg #[.string u2.kind, .string u2.text, .slice Y1 i1' j1', .slice Y2 i2' j2', .slice Y3 u2.kids.length j3'])) (w := w12) ?_ (.tmp 91) (.tmp 92) rfl rfl rfl (HSxy.out _ HBp.out) ?_)
  (· rfl)
  rintro e w13 ⟨rfl, hb⟩
  refine ⟨_, rfl, ?_⟩
  have HBq := Lib.hid (belowNext HBp.out hb)
  clear hb
  clear hHeld
  refine hK.out _ _ (HSQ.out _ HBq.out) (fun hHeld => ?_)
  clear hK K
  try simp only [Act.put, List.setIfInBounds_toArray, List.set_cons_zero, List.set_cons_succ]
  refine wpAnyH_take (i := 22) (oi := { dst := some 94, op := Op.pick (Operand.tmp 90) (Operand.tmp 93) (Operand.const (Value.bool false)), type := 4, pos := "law.go:97", after := #[{ on := 18, ground := Ground.data }, { on := 21, ground := Ground.data }], guard := none }) (v := ?_) rfl (by kernel_rfl) (by kernel_rfl) (by kernel_rfl) (fun _ _ _ h => h) (Or.inl ⟨by rfl, ?_⟩) hHeld ?_
  rotate_left
  · intro wz _
    go_simp
    all_goals with_reducible rfl
  try simp only [Act.put, List.setIfInBounds_toArray, List.set_cons_zero, List.set_cons_succ]
  refine wpAnyH_take (i := 23) (oi := { dst := some 95, op := Op.move (Operand.tmp 94), type := 4, pos := "law.go:97", after := #[{ on := 22, ground := Ground.data }, { on := 21, ground := Ground.chain }], guard := none }) (v := ?_) rfl (by kernel_rfl) (by kernel_rfl) (by kernel_rfl) (fun _ _ _ h => h) (Or.inl ⟨by rfl, ?_⟩) hHeld ?_
  rotate_left
  · intro wz _
    go_simp
    all_goals with_reducible rfl
  try simp only [Act.put, List.setIfInBounds_toArray, List.set_cons_zero, List.set_cons_succ]
  refine wpAnyH_take (i := 24) (oi := { dst := some 96, op := Op.move (Operand.tmp 18), type := 33, pos := "law.go:97", after := #[{ on := 23, ground := Ground.guard }], guard := some (23, true) }) (v := ?_) rfl (by kernel_rfl) (by kernel_rfl) (by kernel_rfl) (fun _ _ _ h => h) (Or.inl ⟨by rfl, ?_⟩) hHeld ?_
  rotate_left
  · intro wz _
    go_simp
    all_goals with_reducible rfl
  try simp only [Act.put, List.setIfInBounds_toArray, List.set_cons_zero, List.set_cons_succ]
  refine wpAnyH_take (i := 25) (oi := { dst := some 97, op := Op.move (Operand.tmp 20), type := 33, pos := "law.go:97", after := #[{ on := 23, ground := Ground.guard }], guard := some (23, true) }) (v := ?_) rfl (by kernel_rfl) (by kernel_rfl) (by kernel_rfl) (fun _ _ _ h => h) (Or.inl ⟨by rfl, ?_⟩) hHeld ?_
  rotate_left
  · intro wz _
    go_simp
    all_goals with_reducible rfl
  try simp only [Act.put, List.setIfInBounds_toArray, List.set_cons_zero, List.set_cons_succ]
  refine wpAnyH_take (i := 26) (oi := { dst := some 98, op := Op.binOp BinOp.eql 33 (Operand.tmp 96) (Operand.tmp 97) 33, type := 4, pos := "law.go:97", after := #[{ on := 24, ground := Ground.data }, { on := 25, ground := Ground.data }, { on := 23, ground := Ground.guard }], guard := some (23, true) }) (v := ?_) rfl (by kernel_rfl) (by kernel_rfl) (by kernel_rfl) (fun _ _ _ h => h) (Or.inl ⟨by rfl, ?_⟩) hHeld ?_
  rotate_left
  · intro wz _
    go_simp
    all_goals with_reducible rfl
  try simp only [Act.put, List.setIfInBounds_toArray, List.set_cons_zero, List.set_cons_succ]
  refine wpAnyH_take (i := 27) (oi := { dst := some 99, op := Op.pick (Operand.tmp 95) (Operand.tmp 98) (Operand.const (Value.bool false)), type := 4, pos := "law.go:97", after := #[{ on := 23, ground := Ground.data }, { on := 26, ground := Ground.data }], guard := none }) (v := ?_) rfl (by kernel_rfl) (by kernel_rfl) (by kernel_rfl) (fun _ _ _ h => h) (Or.inl ⟨by rfl, ?_⟩) hHeld ?_
  rotate_left
  · intro wz _
    go_simp
    all_goals with_reducible rfl
  try simp only [Act.put, List.setIfInBounds_toArray, List.set_cons_zero, List.set_cons_succ]
  refine wpAnyH_take (i := 28) (oi := { dst := some 100, op := Op.move (Operand.tmp 99), type := 4, pos := "law.go:97", after := #[{ on := 27, ground := Ground.data }, { on := 23, ground := Ground.chain }], guard := none }) (v := ?_) rfl (by kernel_rfl) (by kernel_rfl) (by kernel_rfl) (fun _ _ _ h => h) (Or.inl ⟨by rfl, ?_⟩) hHeld ?_
  rotate_left
  · intro wz _
    go_simp
    all_goals with_reducible rfl
  try simp only [Act.put, List.setIfInBounds_toArray, List.set_cons_zero, List.set_cons_succ]
  refine wpAnyH_take (i := 29) (oi := { dst := some 101, op := Op.load 31 (Operand.tmp 8), type := 31, pos := "law.go:97", after := #[{ on := 28, ground := Ground.guard }], guard := some (28, true) }) (v := ?_) rfl (by kernel_rfl) (by kernel_rfl) (by kernel_rfl) (fun _ _ _ h => h) (Or.inl ⟨by rfl, ?_⟩) hHeld ?_
  rotate_left
  · intro wz hSw
    try dsimp only at hSw
    go_simp
    all_goals with_reducible rfl
  try simp only [Act.put, List.setIfInBounds_toArray, List.set_cons_zero, List.set_cons_succ]
  refine wpAnyH_take (i := 30) (oi := { dst := some 102, op := Op.move (Operand.tmp 0), type := 22, pos := "law.go:97", after := #[{ on := 28, ground := Ground.guard }], guard := some (28, true) }) (v := ?_) rfl (by kernel_rfl) (by kernel_rfl) (by kernel_rfl) (fun _ _ _ h => h) (Or.inl ⟨by rfl, ?_⟩) hHeld ?_
  rotate_left
  · intro wz _
    go_simp
    all_goals with_reducible rfl
  try simp only [Act.put, List.setIfInBounds_toArray, List.set_cons_zero, List.set_cons_succ]
  refine wpAnyH_ready (rs := [31]) (by kernel_rfl) (by simp) ?_
  refine AllReadyH.cons (o := { dst := some 103, op := Op.call { callee := Callee.value (Operand.func 6), args := #[Operand.tmp 102], argTypes := #[22] }, type := 31, pos := "law.go:97", after := #[{ on := 30, ground := Ground.data }, { on := 28, ground := Ground.chain }, { on := 28, ground := Ground.guard }], guard := some (28, true) }) rfl (fun K hK => ?_) AllReadyH.nil
  (with_reducible refine step_doc4g (v1 := v) (w := w13) ?_ (.tmp 102) rfl rfl (HDL2.out _ HBq.out) ?_)
  (· rfl)
  rintro e w14 ⟨B, d, rfl, hk, hb⟩
  refine ⟨_, rfl, ?_⟩
  have HBr := Lib.hid (belowNext HBq.out hb)
  have HKr := Lib.hid hk
  clear hk hb
  clear hHeld
  refine hK.out _ _ (HSQ.out _ HBr.out) (fun hHeld => ?_)
  clear hK K
  try simp only [Act.put, List.setIfInBounds_toArray, List.set_cons_zero, List.set_cons_succ]
  refine wpAnyH_ready (rs := [32]) (by kernel_rfl) (by simp) ?_
  refine AllReadyH.cons (o := { dst := some 104, op := Op.call { callee := Callee.value (Operand.func 19), args := #[Operand.tmp 101, Operand.tmp 103], argTypes := #[31, 31] }, type := 4, pos := "law.go:97", after := #[{ on := 29, ground := Ground.data }, { on := 31, ground := Ground.data }, { on := 31, ground := Ground.chain }, { on := 28, ground := Ground.guard }], guard := some (28, true) }) rfl (fun K hK => ?_) AllReadyH.nil
  (with_reducible refine step_same4g (v1 := (.agg #[.string ⟨#[100, 111, 99]⟩, .string ⟨#[]⟩, .slice none 0 0, .slice none 0 0, .slice A (madeB l).length c])) (v2 := .agg (docCells B (madeB l).length d)) (w := w14) ?_ (.tmp 101) (.tmp 103) rfl rfl rfl (HSnd.out _ B d HBr.out HKr.out) ?_)
  (· rfl)
  rintro e w15 ⟨rfl, hb⟩
  refine ⟨_, rfl, ?_⟩
  have HBs := Lib.hid (belowNext HBr.out hb)
  clear hb
  clear hHeld
  refine hK.out _ _ (HSQ.out _ HBs.out) (fun hHeld => ?_)
  clear hK K
  try simp only [Act.put, List.setIfInBounds_toArray, List.set_cons_zero, List.set_cons_succ]
  refine wpAnyH_take (i := 33) (oi := { dst := some 105, op := Op.pick (Operand.tmp 100) (Operand.tmp 104) (Operand.const (Value.bool false)), type := 4, pos := "law.go:97", after := #[{ on := 28, ground := Ground.data }, { on := 32, ground := Ground.data }], guard := none }) (v := ?_) rfl (by kernel_rfl) (by kernel_rfl) (by kernel_rfl) (fun _ _ _ h => h) (Or.inl ⟨by rfl, ?_⟩) hHeld ?_
  rotate_left
  · intro wz _
    go_simp
    all_goals with_reducible rfl
  try simp only [Act.put, List.setIfInBounds_toArray, List.set_cons_zero, List.set_cons_succ]
  refine wpAnyH_take (i := 34) (oi := { dst := some 6, op := Op.assign (Operand.tmp 105), type := 4, pos := "law.go:97", after := #[{ on := 33, ground := Ground.data }, { on := 32, ground := Ground.chain }, { on := 0, ground := Ground.phase }, { on := 1, ground := Ground.phase }, { on := 2, ground := Ground.phase }, { on := 3, ground := Ground.phase }, { on := 4, ground := Ground.phase }, { on := 5, ground := Ground.phase }, { on := 6, ground := Ground.phase }, { on := 7, ground := Ground.phase }, { on := 8, ground := Ground.phase }, { on := 9, ground := Ground.phase }, { on := 10, ground := Ground.phase }, { on := 11, ground := Ground.phase }, { on := 12, ground := Ground.phase }, { on := 13, ground := Ground.phase }, { on := 14, ground := Ground.phase }, { on := 15, ground := Ground.phase }, { on := 16, ground := Ground.phase }, { on := 17, ground := Ground.phase }, { on := 18, ground := Ground.phase }, { on := 19, ground := Ground.phase }, { on := 20, ground := Ground.phase }, { on := 21, ground := Ground.phase }, { on := 22, ground := Ground.phase }, { on := 23, ground := Ground.phase }, { on := 24, ground := Ground.phase }, { on := 25, ground := Ground.phase }, { on := 26, ground := Ground.phase }, { on := 27, ground := Ground.phase }, { on := 28, ground := Ground.phase }, { on := 29, ground := Ground.phase }, { on := 30, ground := Ground.phase }, { on := 31, ground := Ground.phase }, { on := 32, ground := Ground.phase }, { on := 33, ground := Ground.phase }], guard := none }) (v := ?_) rfl (by kernel_rfl) (by kernel_rfl) (by kernel_rfl) (fun _ _ _ h => h) (Or.inl ⟨by rfl, ?_⟩) hHeld ?_
  rotate_left
  · intro wz _
    go_simp
    all_goals with_reducible rfl
  try simp only [Act.put, List.setIfInBounds_toArray, List.set_cons_zero, List.set_cons_succ]
  clear hHeld
  refine wpAnyH_done (by kernel_rfl) ?_ _
  go_wp2
  go_ret
  exact ⟨rfl, HB2.out.trans ((belowNext HB11.out HBs.out).mono HB2.out.size)⟩
end Go.Proofs.Ytmmifednhleggaa
