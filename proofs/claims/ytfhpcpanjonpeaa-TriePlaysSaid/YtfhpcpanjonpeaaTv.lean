/- A list of routes in memory: appended to, written over, read. -/
import Derived.Test.YtfhpcpanjonpeaaTz
namespace Go.Proofs.Ytfhpcpanjonpeaa.Tri
open Pre
open Go.ChangeShapes Go.WideShapes Go.ChangeAt Go.RowKit

theorem app_rt2 {w : World} {ops : Array Oper} {rest : List Oper} {o : Oper} {a : Act} {Q : Exit → Act → World → Prop} (hgd : o.guard = none) (s x : Operand)
    (ho : o.op = .call { callee := .builtin .append, args := #[s, x], argTypes := #[29, 29] }) (B : Nat) (v : Value) (rs : List R) (r : R) (b : Nat)
    (hs : a.eval s = v) (hx : a.eval x = .slice (some ⟨b, 0, none⟩) 1 1) (hown : RtOwn w B v rs) (hc : w.heap[b]? = some (.cells r.cl 39 (0, 0))) (hlen : rs.length ≤ 100000) (hB : B ≤ w.heap.size)
    (h : ∀ v' w', RtOwn w' B v' (rs ++ [r]) → w.grownBy w' v.ownBlock → (v'.ownBlock = v.ownBlock ∨ v'.ownBlock = some w.heap.size) → wpList Try.prog ops Q rest (a.put o.dst v') w') : wpList Try.prog ops Q (o :: rest) a w := by
  obtain ⟨i0, hi, hz0, hz1, hz2⟩ := info_parts info39
  refine wpList_append_own_at w hgd s x 29 ho B 39 i0 _ 5 24 un29 hi hz0 hz1 hz2 rfl (by decide) v rs.length (rs.flatMap fun r : R => r.cl.toList) hs hown ⟨b, 0, none⟩ 1 1 r.cl.toList hx (by simp [R.cl]) ?_ (by intro u hu; simp [R.cl] at hu; rcases hu with rfl | rfl | rfl | rfl | rfl <;> rfl) (by unfold maxLen; omega) (by omega) hB ?_
  · intro j u hj
    have hadd : (⟨b, 0, none⟩ : Addr).add j = ⟨b, j, none⟩ := by unfold Addr.add; split <;> simp_all
    rw [hadd, cell_of_row w b j _ 39 (0, 0) hc]
    simpa using hj
  · intro v' w' h1 h2 _ h4
    refine h v' w' ?_ h2 h4
    unfold RtOwn
    rw [List.flatMap_append, List.length_append]
    simpa using h1
/-- One of the list's routes, cell by cell, and that it may be written over. -/
theorem RtOwn.open {w : World} {B : Nat} {v : Value} {rs : List R} (h : RtOwn w B v rs) {k : Nat} (hk : k < rs.length) : ∃ g cap, v = .slice (some ⟨g, 0, none⟩) rs.length cap ∧ RtAt w g (k * 5) rs[k] ∧ ∀ i, w.frozen? ⟨g, i, none⟩ = false := by
  have hh := h
  rcases h.2 with ⟨_, h0⟩ | ⟨g, cap, cur, rfl, hB, h2, _⟩
  · omega
  · have hc : ∀ i, i < 5 → w.cell? ⟨g, k * 5 + i, none⟩ = (rs[k].cl.toList)[i]? := fun i hi => by
      rw [World.ownsRow.cellAt hh (k * 5 + i) (by omega)]
      exact rflat_at rs k i hk hi
    exact ⟨g, cap, rfl, ⟨hc 0 (by decide), hc 1 (by decide), hc 2 (by decide), hc 3 (by decide), hc 4 (by decide)⟩, fun i => frozen_of_row w g i _ 39 h2⟩
/-- The prefix of the i-th act. -/
def At4 (ds : List A4) (i a n : Nat) : Prop := a = (ds.getD i default).pa ∧ n = (ds.getD i default).pk
theorem getD4 {ds : List A4} {k : Nat} (hk : k < ds.length) : ds.getD k default = ds[k] := by rw [List.getD_eq_getElem?_getD, List.getElem?_eq_getElem hk]; rfl
end Go.Proofs.Ytfhpcpanjonpeaa.Tri
