/- What is left of routes that are put one behind the other: of each prefix the last one. -/
import Derived.Test.YtfhpcpanjonpeaaTf
namespace Go.Proofs.Ytfhpcpanjonpeaa.Tri
open Pre
open Go.ChangeShapes Go.WideShapes Go.ChangeAt Go.RowKit

/-- y stands at j, and none of its prefix behind it, below k. -/
def LastAt (rs : List R) (k j : Nat) (y : R) : Prop := j < k ∧ rs[j]? = some y ∧ ∀ i, j < i → i < k → ∀ z, rs[i]? = some z → ¬(z.a = y.a ∧ z.n = y.n)
theorem getD_of {rs : List R} {k : Nat} (hk : k < rs.length) : rs.getD k ⟨0, 0, 0, 0, 0⟩ = rs[k] := by rw [List.getD_eq_getElem?_getD, List.getElem?_eq_getElem hk]; rfl
theorem puts_last {rs : List R} (h : ∀ r ∈ rs, r.Ok) (k : Nat) (hk : k ≤ rs.length) (y : R) (hy : (puts rs k).1.Mem y) : ∃ j, LastAt rs k j y := by
  induction k generalizing y with
  | zero => exact hy.elim
  | succ k ih =>
    have hkl : k < rs.length := by omega
    unfold puts at hy
    dsimp only at hy
    rw [getD_of hkl] at hy
    rcases (put_mem (puts_wf h k (by omega)) (h _ (List.getElem_mem hkl)) y).1 hy with e | ⟨m, ne⟩
    · exact ⟨k, by omega, by rw [e, List.getElem?_eq_getElem hkl], fun i h1 h2 => by omega⟩
    · obtain ⟨j, h1, h2, h3⟩ := ih (by omega) y m
      refine ⟨j, by omega, h2, fun i hi hik z hz => ?_⟩
      by_cases hk' : i < k
      · exact h3 i hi hk' z hz
      · obtain rfl : i = k := by omega
        rw [List.getElem?_eq_getElem hkl] at hz
        injection hz with hz
        rw [← hz]
        exact fun e => ne ⟨e.1.symm, e.2.symm⟩
theorem puts_has {rs : List R} (h : ∀ r ∈ rs, r.Ok) (k : Nat) (hk : k ≤ rs.length) (j : Nat) (hj : j < k) : ∃ y, (puts rs k).1.Mem y ∧ y.a = (rs[j]'(by omega)).a ∧ y.n = (rs[j]'(by omega)).n := by
  induction k with
  | zero => omega
  | succ k ih =>
    have hkl : k < rs.length := by omega
    unfold puts
    dsimp only
    rw [getD_of hkl]
    have pm := put_mem (puts_wf h k (by omega)) (h _ (List.getElem_mem hkl))
    by_cases hjk : j < k
    · obtain ⟨y, h1, h2, h3⟩ := ih (by omega) hjk
      by_cases he : y.a = rs[k].a ∧ y.n = rs[k].n
      · exact ⟨rs[k], (pm _).2 (.inl rfl), he.1.symm.trans h2, he.2.symm.trans h3⟩
      · exact ⟨y, (pm _).2 (.inr ⟨h1, he⟩), h2, h3⟩
    · obtain rfl : j = k := by omega
      exact ⟨rs[j], (pm _).2 (.inl rfl), rfl, rfl⟩
/-- The last one of a prefix, below k. -/
def lastI (rs : List R) (b m : Nat) : Nat → Int
  | 0 => -1
  | k + 1 => if (rs.getD k ⟨0, 0, 0, 0, 0⟩).a = b ∧ (rs.getD k ⟨0, 0, 0, 0, 0⟩).n = m then k else lastI rs b m k
theorem lastI_at {rs : List R} {k j : Nat} {y : R} (hk : k ≤ rs.length) (h : LastAt rs k j y) : lastI rs y.a y.n k = j := by
  induction k with
  | zero => have := h.1; omega
  | succ k ih =>
    have hkl : k < rs.length := by omega
    unfold lastI
    rw [getD_of hkl]
    by_cases hjk : j < k
    · have hn := h.2.2 k hjk (by omega) rs[k] (List.getElem?_eq_getElem hkl)
      rw [if_neg hn]
      exact ih (by omega) ⟨hjk, h.2.1, fun i h1 h2 => h.2.2 i h1 (by omega)⟩
    · obtain rfl : j = k := by have := h.1; omega
      have e : rs[j] = y := by have := h.2.1; rw [List.getElem?_eq_getElem hkl] at this; injection this
      rw [e, if_pos ⟨rfl, rfl⟩]
theorem list_ahead {t : T} (h : t.WF) (i : Nat) (h0 : 0 < i) (hi : i < t.list.length) : (decide ((t.list[i - 1]'(by omega)).a < t.list[i].a) || ((t.list[i - 1]'(by omega)).a == t.list[i].a && decide ((t.list[i - 1]'(by omega)).n < t.list[i].n))) = true := by
  have := List.pairwise_iff_getElem.1 (list_rises h) (i - 1) i (by omega) hi (by omega)
  rcases this with e | ⟨e1, e2⟩
  · simp [e]
  · simp [e1, e2]
theorem take_more {rs : List R} {k : Nat} (hk : k < rs.length) : rs.take (k + 1) = rs.take k ++ [rs[k]] := List.take_succ_eq_append_getElem hk
end Go.Proofs.Ytfhpcpanjonpeaa.Tri
