/- The law's arrays of marks: 18 marks, and which there are. -/
import Derived.Test.YtldaggcopbnehaaSg
namespace Go.Proofs.Ytldaggcopbnehaa.Src
open Pre Ser
open Go.ChangeShapes Go.WideShapes Go.ChangeAt Go.RowKit Go.Sort
set_option maxRecDepth 8000
def mC (g : Nat → Nat × Nat) : Array Value := Array.ofFn (n := 36) fun i => .int .u16 (if i.1 % 2 = 0 then ((g (i.1 / 2)).1 : Int) else ((g (i.1 / 2)).2 : Int))
def hC (h : Nat → Bool) : Array Value := Array.ofFn (n := 18) fun i => .bool (h i.1)
def up {α : Type} (g : Nat → α) (k : Nat) (v : α) : Nat → α := fun j => if j = k then v else g j
theorem mC_at (g : Nat → Nat × Nat) (k : Nat) (hk : k < 18) : (mC g)[k * 2]? = some (.int .u16 ((g k).1 : Int)) ∧ (mC g)[k * 2 + 1]? = some (.int .u16 ((g k).2 : Int)) := by
  unfold mC
  have e1 : (k * 2) / 2 = k := by omega
  have e2 : (k * 2 + 1) / 2 = k := by omega
  have e3 : (k * 2) % 2 = 0 := by omega
  have e4 : ¬ (k * 2 + 1) % 2 = 0 := by omega
  constructor
  · rw [Array.getElem?_ofFn, dif_pos (by omega)]
    simp only [e1, e3, if_true]
  · rw [Array.getElem?_ofFn, dif_pos (by omega)]
    simp only [e2, if_neg e4]
theorem hC_at (h : Nat → Bool) (k : Nat) (hk : k < 18) : (hC h)[k]? = some (.bool (h k)) := by
  unfold hC
  rw [Array.getElem?_ofFn, dif_pos hk]
theorem hC_set (h : Nat → Bool) (k : Nat) (hk : k < 18) (v : Bool) : (hC h).setIfInBounds k (.bool v) = hC (up h k v) := by
  apply Array.ext_getElem?
  intro i
  rcases Nat.lt_or_ge i 18 with hi | hi
  · rw [hC_at _ i hi, Array.getElem?_setIfInBounds]
    unfold up
    by_cases e : k = i
    · subst e; simp [hC, hk]
    · rw [if_neg e, if_neg (Ne.symm e), hC_at _ i hi]
  · rw [Array.getElem?_eq_none (by simp [hC]; omega), Array.getElem?_eq_none (by simp [hC]; omega)]
theorem mC_set (g : Nat → Nat × Nat) (k : Nat) (hk : k < 18) (a b : Nat) : ((mC g).setIfInBounds (k * 2) (.int .u16 (a : Int))).setIfInBounds (k * 2 + 1) (.int .u16 (b : Int)) = mC (up g k (a, b)) := by
  apply Array.ext_getElem?
  intro i
  rcases Nat.lt_or_ge i 36 with hi | hi
  · have hs : (mC g).size = 36 := by simp [mC]
    have hi2 : i / 2 < 18 := by omega
    have key : ∀ g : Nat → Nat × Nat, (mC g)[i]? = some (.int .u16 (if i % 2 = 0 then ((g (i / 2)).1 : Int) else ((g (i / 2)).2 : Int))) := fun g => by
      unfold mC
      rw [Array.getElem?_ofFn, dif_pos hi]
    rw [key, Array.getElem?_setIfInBounds, Array.size_setIfInBounds, hs, Array.getElem?_setIfInBounds, hs, key]
    unfold up
    by_cases e : i / 2 = k
    · rw [if_pos e]
      rcases Nat.mod_two_eq_zero_or_one i with h0 | h1
      · rw [if_neg (by omega), if_pos (by omega), if_pos (by omega), if_pos h0]
      · rw [if_pos (by omega), if_pos (by omega), if_neg (by omega)]
    · rw [if_neg e, if_neg (by omega), if_neg (by omega)]
  · rw [Array.getElem?_eq_none (by simp [mC]; omega), Array.getElem?_eq_none (by simp [mC]; omega)]
/-- What stands between two rounds. -/
structure PX (w wr : World) (q bm bh : Nat) (f : Mk) (c : Nat) (g : Nat → Nat × Nat) (h : Nat → Bool) : Prop where
  b : Below w.heap.size w wr
  s : SrcAt w.heap.size wr q f c
  rm : wr.heap[bm]? = some (.cells (mC g) 29 (0, 0))
  rh : wr.heap[bh]? = some (.cells (hC h) 30 (0, 0))
  lm : w.heap.size ≤ bm
  lh : w.heap.size ≤ bh
  bd : ∀ k, (g k).1 < 65536 ∧ (g k).2 < 65536
def Ag (f : Mk) (g : Nat → Nat × Nat) (h : Nat → Bool) : Prop := ∀ k, k < 18 → fk k = k → f (pA k) (pN k) = if h k then some (g k) else none
theorem PX.step {w W W' : World} {q bm bh : Nat} {f : Mk} {c : Nat} {g : Nat → Nat × Nat} {h : Nat → Bool} (p : PX w W q bm bh f c g h) (B : Below W.heap.size W W') : PX w W' q bm bh f c g h :=
  ⟨p.b.trans (B.mono p.b.size), p.s.below B, (B.block _ (Array.getElem?_eq_some_iff.1 p.rm).1).trans p.rm, (B.block _ (Array.getElem?_eq_some_iff.1 p.rh).1).trans p.rh, p.lm, p.lh, p.bd⟩
theorem PX.src {w W W' : World} {q bm bh : Nat} {f f' : Mk} {c c' : Nat} {g : Nat → Nat × Nat} {h : Nat → Bool} (p : PX w W q bm bh f c g h) (k : K w.heap.size W W') (s : SrcAt w.heap.size W' q f' c') : PX w W' q bm bh f' c' g h :=
  ⟨p.b.trans k.below, s, k.cells _ _ _ _ p.rm (by decide), k.cells _ _ _ _ p.rh (by decide), p.lm, p.lh, p.bd⟩
theorem PX.at_ {w W : World} {q bm bh : Nat} {f : Mk} {c : Nat} {g : Nat → Nat × Nat} {h : Nat → Bool} (p : PX w W q bm bh f c g h) (k : Nat) (hk : k < 18) :
    W.cell? ⟨bm, k * 2, none⟩ = some (.int .u16 ((g k).1 : Int)) ∧ W.cell? ⟨bm, k * 2 + 1, none⟩ = some (.int .u16 ((g k).2 : Int)) ∧ W.cell? ⟨bh, k, none⟩ = some (.bool (h k)) ∧ (∀ i, W.frozen? ⟨bm, i, none⟩ = false) ∧ ∀ i, W.frozen? ⟨bh, i, none⟩ = false :=
  ⟨(cell_of_row W bm _ _ 29 (0, 0) p.rm).trans (mC_at g k hk).1, (cell_of_row W bm _ _ 29 (0, 0) p.rm).trans (mC_at g k hk).2, (cell_of_row W bh _ _ 30 (0, 0) p.rh).trans (hC_at h k hk), fun i => frozen_of_row W bm i _ 29 p.rm, fun i => frozen_of_row W bh i _ 30 p.rh⟩
theorem PX.ne {w W : World} {q bm bh : Nat} {f : Mk} {c : Nat} {g : Nat → Nat × Nat} {h : Nat → Bool} (p : PX w W q bm bh f c g h) : bm ≠ bh := fun e => by
  have := p.rm; rw [e, p.rh] at this; injection this with this; injection this with _ e2 _; exact absurd e2 (by decide)
theorem PX.setH {w W : World} {q bm bh : Nat} {f : Mk} {c : Nat} {g : Nat → Nat × Nat} {h : Nat → Bool} (p : PX w W q bm bh f c g h) (k : Nat) (hk : k < 18) (v : Bool) : PX w (W.setCell ⟨bh, k, none⟩ (.bool v)) q bm bh f c g (up h k v) := by
  have G1 := set_grown W ⟨bh, k, none⟩ (.bool v)
  refine ⟨p.b.setCell (p := ⟨bh, k, none⟩) p.lh _, p.s.kept G1 p.rh (by decide), (Below.heap_setCell _ ⟨bh, k, none⟩ _ bm p.ne).trans p.rm, ?_, p.lm, p.lh, p.bd⟩
  have := heap_setCell_same W bh k _ 30 (.bool v) p.rh
  rw [hC_set _ _ hk] at this
  exact this
theorem PX.setM {w W : World} {q bm bh : Nat} {f : Mk} {c : Nat} {g : Nat → Nat × Nat} {h : Nat → Bool} (p : PX w W q bm bh f c g h) (k : Nat) (hk : k < 18) (a b : Nat) (ha : a < 65536) (hb : b < 65536) :
    PX w ((W.setCell ⟨bm, k * 2, none⟩ (.int .u16 (a : Int))).setCell ⟨bm, k * 2 + 1, none⟩ (.int .u16 (b : Int))) q bm bh f c (up g k (a, b)) h := by
  have G1 := set_grown W ⟨bm, k * 2, none⟩ (.int .u16 (a : Int))
  have r1 := heap_setCell_same W bm (k * 2) _ 29 (.int .u16 (a : Int)) p.rm
  have G2 := set_grown (W.setCell ⟨bm, k * 2, none⟩ (.int .u16 (a : Int))) ⟨bm, k * 2 + 1, none⟩ (.int .u16 (b : Int))
  have r2 := heap_setCell_same _ bm (k * 2 + 1) _ 29 (.int .u16 (b : Int)) r1
  rw [mC_set _ _ hk] at r2
  exact ⟨(p.b.setCell (p := ⟨bm, k * 2, none⟩) p.lm _).setCell (p := ⟨bm, k * 2 + 1, none⟩) p.lm _, (p.s.kept G1 p.rm (by decide)).kept G2 r1 (by decide), r2, (Below.heap_setCell _ ⟨bm, _, none⟩ _ bh p.ne.symm).trans ((Below.heap_setCell W ⟨bm, _, none⟩ _ bh p.ne.symm).trans p.rh), p.lm, p.lh, fun j => by unfold up; split; exact ⟨ha, hb⟩; exact p.bd j⟩
/-- The marks agree behind a mark more. -/
theorem Ag.put {f : Mk} {g : Nat → Nat × Nat} {h : Nat → Bool} (A : Ag f g h) (k : Nat) (hk : k < 18) (hkk : fk k = k) (v : Nat × Nat) : Ag (f.put (pA k) (pN k) v) (up g k v) (up h k true) := by
  intro j hj hjj
  unfold Mk.put up
  by_cases e : j = k
  · subst e; simp
  · rw [if_neg (fun e2 => e (fk_inj hj hk hjj hkk e2.1 e2.2)), if_neg e, if_neg e]; exact A j hj hjj
theorem up_up {α : Type} (g : Nat → α) (k : Nat) (u v : α) : up (up g k u) k v = up g k v := by
  funext j; unfold up; split <;> rfl
end Go.Proofs.Ytldaggcopbnehaa.Src
