/- A byte of the call's own turned; how many parts a packet has. -/
import Derived.Test.YtecfblkagbdjlaaMu
namespace Go.Proofs.Ytecfblkagbdjlaa.Msg
open Go.ChangeShapes Go.WideShapes Go.ChangeAt Go.RowKit
open Coin (Own Rd CoinOwn b8)
set_option maxRecDepth 8000

theorem own_head {w : World} {B : Nat} {v : Value} {l : List UInt8} (h : Own w B v l) (h0 : 0 < l.length) : ∃ g cap, v = .slice (some ⟨g, 0, none⟩) l.length cap ∧ B ≤ g ∧ l.length ≤ cap := by
  obtain ⟨_, ⟨_, h1⟩ | ⟨g, cap, cur, rfl, hB, _, hle, _, _, _⟩⟩ := h
  · omega
  · exact ⟨g, cap, rfl, hB, hle⟩
theorem own_at {w : World} {B g cap m : Nat} {l : List UInt8} (h : Own w B (.slice (some ⟨g, 0, none⟩) m cap) l) (hm : m = l.length) (j : Nat) (hj : j < l.length) : w.cell? ⟨g, j, none⟩ = some (b8 l[j]) := by
  subst hm
  have := World.ownsRow.cellAt h j (by omega)
  rw [this]; simp [hj]
theorem own_ice {w : World} {B g cap m : Nat} {l : List UInt8} (h : Own w B (.slice (some ⟨g, 0, none⟩) m cap) l) (hm : m = l.length) (j : Nat) : w.frozen? ⟨g, j, none⟩ = false := by
  subst hm
  exact World.ownsRow.frozenAt h j
theorem own_set {w : World} {B g cap m : Nat} {l : List UInt8} (h : Own w B (.slice (some ⟨g, 0, none⟩) m cap) l) (hm : m = l.length) (j : Nat) (b : UInt8) : Own (w.setCell ⟨g, j, none⟩ (b8 b)) B (.slice (some ⟨g, 0, none⟩) m cap) (l.set j b) := by
  subst hm
  have := World.ownsRow.stored h j (b8 b)
  unfold Coin.Own
  rw [List.length_set, List.map_set]
  exact this.1
theorem dec_len (p : List UInt8) (h : (dec p).1 = 0) : (dec p).2.2.1.length ≤ 300 := by
  unfold dec at h ⊢
  split
  · exact Nat.zero_le _
  · split
    · exact Nat.zero_le _
    · split
      · exact Nat.zero_le _
      · split
        · exact Nat.zero_le _
        · split
          · exact Nat.zero_le _
          · rename_i h3; exact Nat.le_of_not_lt h3
theorem dec_u (p : List UInt8) (h : (dec p).1 ≠ 0) : (dec p).2.1 = 0 ∧ (dec p).2.2.1 = [] ∧ (dec p).2.2.2 = 0 := by
  have := dec_bad p h
  rw [this]; exact ⟨rfl, rfl, rfl⟩
theorem dec_e (p : List UInt8) : (dec p).1 ≤ 6 := by
  rcases dec_forms p with e | e | e | e <;> (rw [e]; try decide)
theorem tps_u (n : Nat) : ∀ (l : List UInt8) (xs : List Pt) (u : Nat), l.length ≤ n → dp l = some (xs, u) → u ≤ n ∧ (∀ x ∈ xs, x.Fits) := by
  induction n with
  | zero =>
    intro l xs u hl h
    obtain rfl : l = [] := List.eq_nil_of_length_eq_zero (by omega)
    rw [dp_nil] at h
    simp at h
    obtain ⟨rfl, rfl⟩ := h
    exact ⟨Nat.le_refl _, fun x hx => (by cases hx)⟩
  | succ n ih =>
    intro l xs u hl h
    rcases l with _ | ⟨b, r⟩
    · rw [dp_nil] at h
      simp at h
      obtain ⟨rfl, rfl⟩ := h
      exact ⟨Nat.zero_le _, fun x hx => (by cases hx)⟩
    · have hft := t1_facts b r
      rw [dp_cons] at h
      obtain ⟨k, own, l', f', ht⟩ : ∃ k own l' f', t1 b r = (k, own, l', f') := ⟨_, _, _, _, rfl⟩
      rw [ht] at h hft
      simp only [List.length_cons] at h hft hl
      by_cases hf : f' = 0
      · subst hf
        rw [if_neg (fun h => h rfl)] at h
        cases hk : isKnown k
        · rw [if_neg (by simp [hk]), Option.map_eq_some_iff] at h
          obtain ⟨⟨ys, v⟩, h1, h2⟩ := h
          simp only [Prod.mk.injEq] at h2
          obtain ⟨rfl, rfl⟩ := h2
          obtain ⟨i1, i2⟩ := ih l' ys v (by omega) h1
          exact ⟨by omega, i2⟩
        · rw [if_pos hk] at h
          by_cases he : (po k own).2 = 0
          · rw [if_neg (fun h => h he), Option.map_eq_some_iff] at h
            obtain ⟨⟨ys, v⟩, h1, h2⟩ := h
            simp only [Prod.mk.injEq] at h2
            obtain ⟨rfl, rfl⟩ := h2
            obtain ⟨i1, i2⟩ := ih l' ys v (by omega) h1
            refine ⟨by omega, fun x hx => ?_⟩
            rcases List.mem_cons.1 hx with rfl | hx
            · exact po_fits k own
            · exact i2 x hx
          · rw [if_pos he] at h; cases h
      · rw [if_pos hf] at h; cases h
end Go.Proofs.Ytecfblkagbdjlaa.Msg
