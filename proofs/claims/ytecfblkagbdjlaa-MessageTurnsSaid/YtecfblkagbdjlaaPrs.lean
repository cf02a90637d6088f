/- For the law on purses: pieces of a slice that came in; a purse that is left alone. -/
import Derived.Test.YtecfblkagbdjlaaRta
namespace Go.Proofs.Ytecfblkagbdjlaa.Coin
open Go.ChangeShapes Go.WideShapes Go.ChangeAt Go.RowKit
set_option maxRecDepth 4000

theorem Pur.lt {w : World} {q f : Nat} {l : List UInt8} (h : Pur w q l f) : q < w.heap.size := by
  obtain ⟨g, off, cap, hq, _⟩ := h
  rcases Nat.lt_or_ge q w.heap.size with hlt | hge
  · exact hlt
  · rw [Array.getElem?_eq_none hge] at hq; cases hq
theorem Pur.below {w w' : World} {q f : Nat} {l : List UInt8} (h : Pur w q l f) (hb : Below w.heap.size w w') : Pur w' q l f :=
  h.far fun i hi => hb.block i (Nat.lt_of_le_of_lt hi h.lt)
theorem below_grown {w W W' : World} {q : Nat} (hb : Below w.heap.size w W) (hg : W.grownBy W' (some q)) (hq : w.heap.size ≤ q) : Below w.heap.size w W' :=
  hb.grown hg hb.size fun k h => by injection h with h; omega
theorem slice_from (A : Option Addr) (m c k : Nat) (hk : k ≤ m) (W : World) :
    (Instr.slice 30 (.slice A m c) (some (.int .i64 (k : Int))) none none).run Try.prog W = .ok (.slice (if c = k then A else A.map (·.add k)) (m - k) (c - k)) W := by
  have h := run_slice_l (P := Try.prog) (w := W) 30 A m c Try.underlying30 .i64 (k : Int) (by omega) (by omega)
  rw [h]
  simp [go_sem, sliced]
/-- Of a slice that reads as bytes, a piece from k on. -/
theorem cut_any {w : World} {B : Nat} {A : Option Addr} {l : List UInt8} (h : Rd w B A l) (m c k : Nat) (hm : m = l.length) (hc : m ≤ c) (hA : A = none → c = 0) (hk : k ≤ m) :
    ∃ A', (∀ W, (Instr.slice 30 (.slice A m c) (some (.int .i64 (k : Int))) none none).run Try.prog W = .ok (.slice A' (m - k) (c - k)) W) ∧ Rd w B A' (l.drop k) ∧ (A' = none → c - k = 0) := by
  refine ⟨_, slice_from A m c k hk, ?_, ?_⟩
  · by_cases e : c = k
    · have : l.drop k = [] := List.drop_eq_nil_of_le (by omega)
      rw [this]
      exact Rd.nil _ _ _
    · rw [if_neg e]; exact h.cut k
  · by_cases e : c = k
    · intro _; omega
    · rw [if_neg e]
      intro h'
      rcases A with _ | ad
      · have := hA rfl; omega
      · cases h'
theorem upto_any {A : Option Addr} (m c k : Nat) (hA : A = none → c = 0) (hc : m ≤ c) (hk : k ≤ m) (W : World) :
    (Instr.slice 30 (.slice A m c) none (some (.int .i64 (k : Int))) none).run Try.prog W = .ok (.slice A k c) W := by
  have h := run_slice_h (P := Try.prog) (w := W) 30 A m c Try.underlying30 .i64 (k : Int) (by omega) (by omega)
  rw [h]
  rcases A with _ | ad
  · have h0 := hA rfl
    obtain rfl : k = 0 := by omega
    subst h0
    simp [go_sem, sliced]
  · simp [go_sem, sliced]
end Go.Proofs.Ytecfblkagbdjlaa.Coin
