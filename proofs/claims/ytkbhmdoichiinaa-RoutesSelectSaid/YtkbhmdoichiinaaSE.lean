/- What stands between two acts of a law. -/
import Derived.Test.YtkbhmdoichiinaaSD
namespace Go.Proofs.Ytkbhmdoichiinaa.Rts
open Pre Ser
open Go.Proofs.Ytkbhmdoichiinaa.Src (row1 row2)
open Go.ChangeShapes Go.WideShapes Go.ChangeAt Go.RowKit
set_option maxRecDepth 8000
set_option linter.unusedVariables false

open Go.Proofs.Ytkbhmdoichiinaa.Src (Mk SrcAt pA pN)
theorem rts_low' {lo lo' : Nat} {w : World} {q : Nat} {L : List E} {v : Value} (h : RtsAt lo w q L v) (hl : lo' ≤ lo) : RtsAt lo' w q L v := ⟨h.row, own_mono h.own hl, h.ne, Nat.le_trans hl h.le⟩
/-- Routes, and the law's box of its list. -/
structure LW (w W : World) (q g : Nat) (L : List E) (v vl : Value) (l : List E) (now : Nat) : Prop where
  b : Below w.heap.size w W
  p : PL w.heap.size W q L v vl l
  t : W.heap[g]? = some (.cells #[vl, .int .u64 (now : Int)] 29 (0, 0))
  le : w.heap.size ≤ g
variable {w W W' : World} {q g now : Nat} {v vl : Value} {L l : List E}
theorem LW.step (h : LW w W q g L v vl l now) (B : Below W.heap.size W W') : LW w W' q g L v vl l now := ⟨h.b.trans (B.mono h.b.size), h.p.step B, brow B h.t, h.le⟩
theorem LW.esl {A : Option Addr} {n c : Nat} (h : LW w W q g L v (.slice A n c) l now) : n = l.length ∧ ESl W A l := by
  obtain ⟨A', c', e, h1, h2, -⟩ := h.p.sl
  injection e with e1 e2 e3
  subst e1 e2 e3
  exact ⟨rfl, h1⟩
theorem LW.fr {w' : World} {L' l' : List E} {v' vl' : Value} (h : LW w W q g L v vl l now) (hp : PL w.heap.size W' q L' v' vl' l') (F : Fr (Xr q v) W W') : Below w.heap.size w W' ∧ W'.heap[g]? = some (.cells #[vl, .int .u64 (now : Int)] 29 (0, 0)) := by
  have hx : ∀ k, Xr q v k → w.heap.size ≤ k := fun k hk => by
    rcases hk with rfl | hk
    · exact h.p.r.le
    · exact (own_lt h.p.r.own hk).1
  refine ⟨h.b.trans (F.below h.b.size hx), F.row h.t (fun hk => ?_)⟩
  rcases hk with hk | hk
  · exact row_ne h.t h.p.r.row (by decide) hk
  · exact own_ne h.p.r.own h.t (by decide) hk
/-- Behind an act, and the store of its answer. -/
theorem LW.done {L' l' : List E} {v' vl' : Value} {now' : Nat} (h : LW w W q g L v vl l now) (hp : PL w.heap.size W' q L' v' vl' l') (F : Fr (Xr q v) W W') : LW w ((W'.setCell ⟨g, 0, none⟩ vl').setCell ⟨g, 1, none⟩ (.int .u64 (now' : Int))) q g L' v' vl' l' now' := by
  obtain ⟨hb, ht⟩ := h.fr (w' := W') hp F
  have F2 : Fr (fun i => i = g) W' ((W'.setCell ⟨g, 0, none⟩ vl').setCell ⟨g, 1, none⟩ (.int .u64 (now' : Int))) := (Fr.grown (Src.set_grown W' ⟨g, 0, none⟩ vl') (fun k e => (Option.some.inj e).symm)).trans (Fr.grown (Src.set_grown _ ⟨g, 1, none⟩ _) (fun k e => (Option.some.inj e).symm))
  exact ⟨hb.trans (F2.below hb.size (fun k e => by subst e; exact h.le)), hp.box ht (by decide) (by decide) F2, Src.Tab_set2 ht _ _, h.le⟩
theorem PL.start {lo : Nat} {W : World} {q : Nat} {v : Value} (h : RtsAt lo W q [] v) : PL lo W q [] v (.slice none 0 0) [] :=
  ⟨h, none, 0, rfl, fun k hk => absurd hk (by simp), fun _ => rfl, fun b o e => by cases e⟩
/-- One is in both lists: where it is found. -/
theorem Inv.found (h : Inv L l now) {e : E} (he : e ∈ L) : ∃ fi, ∃ hf : fi < l.length, l[fi] = e ∧ idxV (isOf e.a e.n e.b) l = (fi : Int) := by
  have hel := (h.same e).1 he
  obtain ⟨i, hi, rfl⟩ := List.getElem_of_mem hel
  have hok := h.ok _ he
  have hix : idxV (isOf l[i].a l[i].n l[i].b) l = (i : Int) := idxV_hit hi (by unfold isOf; simp) (fun j hj hlt => by
    have hkey := isOf_key (a := l[i].a) (m := l[i].n) (x := l[i].b) (h.ok l[j] ((h.same _).2 (List.getElem_mem hj))) hok.n hok.b
    rw [hkey]
    have := List.pairwise_iff_getElem.1 h.once j i hj hi hlt
    have hk : key l[i].a l[i].n l[i].b = l[i].key := rfl
    rw [hk]
    simpa using this)
  exact ⟨i, hi, rfl, hix⟩
theorem Inv.ahead (h : Inv L l now) {i : Nat} (hi : i + 1 < L.length) : (L[i].a < L[i + 1].a ∨ L[i].a = L[i + 1].a ∧ L[i].n < L[i + 1].n) ∨ (L[i].a = L[i + 1].a ∧ L[i].n = L[i + 1].n) ∧ L[i].b < L[i + 1].b := by
  have h1 := h.up.get (show i < i + 1 by omega) hi
  have o1 := h.ok _ (List.getElem_mem (show i < L.length by omega))
  have o2 := h.ok _ (List.getElem_mem hi)
  unfold E.key at h1
  rw [key_lt o1.n o1.b o2.n o2.b] at h1
  omega
end Go.Proofs.Ytkbhmdoichiinaa.Rts
