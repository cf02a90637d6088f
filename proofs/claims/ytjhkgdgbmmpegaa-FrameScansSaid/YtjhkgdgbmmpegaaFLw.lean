/- For the laws on frames: bytes that came in; rows of one's own. -/
import Derived.Test.YtjhkgdgbmmpegaaFAw
namespace Go.Proofs.Ytjhkgdgbmmpegaa.Frm
open Go.ChangeShapes Go.WideShapes Go.ChangeAt Go.RowKit
open Coin (b8 Rd Row Own sz coin got str CoinSaid)
open Tal (more)

theorem own_head {w : World} {B : Nat} {v : Value} {l : List UInt8} (h : Own w B v l) (h0 : 0 < l.length) : ∃ g cap, v = .slice (some ⟨g, 0, none⟩) l.length cap ∧ B ≤ g ∧ l.length ≤ cap := by
  obtain ⟨_, ⟨_, h1⟩ | ⟨g, cap, cur, rfl, hB, _, hle, _, _, _⟩⟩ := h
  · omega
  · exact ⟨g, cap, rfl, hB, hle⟩
theorem own_at {w : World} {B g cap m : Nat} {l : List UInt8} (h : Own w B (.slice (some ⟨g, 0, none⟩) m cap) l) (hm : m = l.length) (j : Nat) (hj : j < l.length) : w.cell? ⟨g, j, none⟩ = some (b8 l[j]) := by
  subst hm
  have := World.ownsRow.cellAt h j (by omega)
  rw [this]; simp [hj]
theorem own_ice {w : World} {B g cap m : Nat} {l : List UInt8} (h : Own w B (.slice (some ⟨g, 0, none⟩) m cap) l) (hm : m = l.length) (j : Nat) : w.frozen? ⟨g, j, none⟩ = false := by
  subst hm
  exact World.ownsRow.frozenAt h j
theorem own_set {w : World} {B g cap m : Nat} {l : List UInt8} (h : Own w B (.slice (some ⟨g, 0, none⟩) m cap) l) (hm : m = l.length) (j : Nat) (b : UInt8) : Own (w.setCell ⟨g, j, none⟩ (b8 b)) B (.slice (some ⟨g, 0, none⟩) m cap) (l.set j b) := by
  subst hm
  have := World.ownsRow.stored h j (b8 b)
  unfold Coin.Own
  rw [List.length_set, List.map_set]
  exact this.1
/-- What the walk is told of a slice of integers that came in. -/
def IsRow (k : IntKind) (w : World) (a : Option Addr) (len cap : Nat) (zs : List Int) : Prop :=
  (a = none ∧ len = 0 ∧ cap = 0 ∧ zs = []) ∨
  ∃ x, a = some x ∧ len ≤ cap ∧ cap ≤ maxLen ∧ zs.length = cap ∧ (∀ i, i < zs.length → w.cell? (x.add i) = some (.int k (zs.getD i 0))) ∧ ∀ n ∈ zs, (Lit.int k n).wf = true
theorem bytes_of {w : World} {a : Option Addr} {len cap : Nat} {z : List Int} (h : IsRow .u8 w a len cap z) : ∃ l : List UInt8, len = l.length ∧ len ≤ maxLen ∧ len ≤ cap ∧ Rd w w.heap.size a l ∧ (a = none → cap = 0) := Tal.bytes_of h
theorem mat_of {w : World} {a : Addr} {len cap : Nat} {A : Nat → Option Addr} {L C : Nat → Nat} {Z : Nat → List Int} (hl : len ≤ cap) (hm : cap ≤ maxLen)
    (h : ∀ r, r < cap → w.cell? (a.add r) = some (.slice (A r) (L r) (C r)) ∧ L r ≤ C r ∧ C r ≤ maxLen ∧ (Z r).length = C r ∧ (∀ n ∈ Z r, (Lit.int .u8 n).wf = true) ∧ (A r = none → C r = 0) ∧
        ∀ a', A r = some a' → (0 : Nat) ≤ a'.block ∧ ∀ c, c < C r → w.cell? (a'.add c) = some (.int .u8 ((Z r).getD c 0))) : ∃ ll, IsMat w (some a) len cap ll := by
  have hrow : ∀ r, r < cap → IsRow .u8 w (A r) (L r) (C r) (Z r) := fun r hr => by
    obtain ⟨_, h2, h3, h4, h5, h6, h7⟩ := h r hr
    cases e : A r with
    | none =>
      have hc := h6 e
      exact .inl ⟨rfl, by omega, hc, List.eq_nil_of_length_eq_zero (by omega)⟩
    | some a' => exact .inr ⟨a', rfl, h2, h3, h4, fun i hi => (h7 a' e).2 i (by omega), h5⟩
  have hb : ∀ r, r < len → ∃ l : List UInt8, L r = l.length ∧ L r ≤ maxLen ∧ L r ≤ C r ∧ Rd w w.heap.size (A r) l ∧ (A r = none → C r = 0) := fun r hr => bytes_of (hrow r (by omega))
  obtain ⟨F, hF⟩ := Go.Deep.choose_lt hb
  refine ⟨(List.range len).map F, by simp, hl, hm, (fun h => by cases h), fun h0 => ⟨a, rfl, ?_, fun r hr => ?_⟩, fun r hr => ?_⟩
  · have h0' : 0 < len := by simpa using h0
    have := block_lt_of_cell (h 0 (by omega)).1
    rwa [Coin.block_add] at this
  · have hr' : r < len := by simpa using hr
    obtain ⟨f1, f2, f3, f4, f5⟩ := hF r hr'
    have e : ((List.range len).map F)[r] = F r := by simp
    rw [e]
    exact ⟨A r, C r, by rw [← f1]; exact (h r (by omega)).1, by rw [← f1]; exact f3, f5, f4⟩
  · obtain ⟨i, hi, rfl⟩ := List.mem_map.1 hr
    obtain ⟨f1, f2, _⟩ := hF i (by simpa using hi)
    omega
theorem one_form {w w' : World} {r : List UInt8} {e : Ending} (h : OneSaid w r 0 e w') : ∃ (ki : Int) (A : Option Addr) (n c : Nat) (i en : Int), e = .returned (.tuple #[.agg #[.int .u8 ki, .slice A n c, .int .i64 i, .int .i64 en], .int .i64 (err r : Nat)]) ∧ (err r = 0 → en = size r) ∧ Below w.heap.size w w' := by
  by_cases h0 : err r = 0
  · obtain ⟨g, h1, _, _⟩ := h.2.1 h0
    refine ⟨_, _, _, _, _, _, by rw [h1, h0]; rfl, fun _ => ?_, h.2.2⟩
    simp
  · exact ⟨0, none, 0, 0, 0, 0, h.1 h0, fun h => absurd h h0, h.2.2⟩
theorem two_step {W W1 W2 : World} {i : Nat} {c O : Obj} (hi : W.heap[i]? = some c) (d : Below W.heap.size W W1) (G : (W1.alloc O).grownBy W2 (some W1.heap.size)) : W2.heap[i]? = some c := by
  have h1 := (Array.getElem?_eq_some_iff.1 hi).1
  have h2 := d.size
  refine (G.block i (by simp; omega) (fun h => by injection h with h; omega)).trans ((heap_alloc_old W1 O (by omega)).trans ((d.block i h1).trans hi))
theorem mat_nil (w : World) : IsMat w none 0 0 [] := ⟨rfl, Nat.le_refl _, by unfold maxLen; omega, (fun _ => rfl), (fun h => by simp at h), fun r h => by simp at h⟩
end Go.Proofs.Ytjhkgdgbmmpegaa.Frm
