/- The files of a shelf that have no name any more. -/
import Derived.Test.YtkalgonkaoiapaaShm
namespace Go.Proofs.Ytkalgonkaoiapaa.Shf
def files (l : List (S × Nat)) : List Nat := l.map (·.2)
def sumf (fl : Nat → S × Nat) (bs : List Nat) : Nat := (bs.map fun b => (fl b).1.length).sum
theorem tot_files (fl : Nat → S × Nat) (l : List (S × Nat)) : tot fl l = sumf fl (files l) := by simp [tot, sumf, files, List.map_map, Function.comp_def]
theorem sumf_app (fl : Nat → S × Nat) (a b : List Nat) : sumf fl (a ++ b) = sumf fl a + sumf fl b := by simp [sumf]
theorem sumf_cons (fl : Nat → S × Nat) (a : Nat) (b : List Nat) : sumf fl (a :: b) = (fl a).1.length + sumf fl b := by simp [sumf]
theorem sumf_upd {fl : Nat → S × Nat} {l : List Nat} {b : Nat} {x : S × Nat} (h : b ∉ l) : sumf (fun c => if c = b then x else fl c) l = sumf fl l := by
  unfold sumf
  congr 1
  apply List.map_congr_left
  intro c hc
  have : c ≠ b := fun e => h (by rw [← e]; exact hc)
  simp [this]
theorem sumf_erase (fl : Nat → S × Nat) {l : List Nat} {b : Nat} (h : b ∈ l) : sumf fl l = (fl b).1.length + sumf fl (l.erase b) := by
  induction l with
  | nil => simp at h
  | cons a l ih =>
    by_cases e : a = b
    · subst e; rw [List.erase_cons_head, sumf_cons]
    · have hm : b ∈ l := (List.mem_cons.1 h).elim (fun h => absurd h.symm e) id
      rw [List.erase_cons_tail (by simpa using e), sumf_cons, sumf_cons, ih hm]
      omega
theorem sumf_le (fl : Nat → S × Nat) : ∀ {a b : List Nat}, a.Nodup → (∀ x ∈ a, x ∈ b) → sumf fl a ≤ sumf fl b
  | [], _, _, _ => by simp [sumf]
  | x :: a, b, hn, h => by
    simp only [List.nodup_cons] at hn
    rw [sumf_cons, sumf_erase fl (h x (List.mem_cons_self ..))]
    have := sumf_le fl (b := b.erase x) hn.2 (fun y hy => by
      have hyx : y ≠ x := fun e => hn.1 (by rw [← e]; exact hy)
      exact (List.mem_erase_of_ne hyx).2 (h y (List.mem_cons_of_mem _ hy)))
    omega
theorem mem_files {l : List (S × Nat)} {b : Nat} : b ∈ files l ↔ ∃ s, (s, b) ∈ l := by
  unfold files
  rw [List.mem_map]
  constructor
  · rintro ⟨⟨s, c⟩, h, rfl⟩; exact ⟨s, h⟩
  · rintro ⟨s, h⟩; exact ⟨(s, b), h, rfl⟩
/-- The files that had a name since names were safe, and have none any more. -/
structure LostIs (m : M) (lost : List Nat) : Prop where
  nd : lost.Nodup
  out : ∀ b ∈ lost, b ∉ files m.now
  all : ∀ k, k ≤ m.moves.length → ∀ b ∈ files (ages m.safe (m.moves.take k)), b ∈ files m.now ∨ b ∈ lost
  some : ∀ b ∈ lost, ∃ k, k ≤ m.moves.length ∧ b ∈ files (ages m.safe (m.moves.take k))
  sum : m.gone = sumf m.fl lost
theorem LostIs.mv {m : M} {v : Mv} {fl : Nat → S × Nat} {nd gn : Nat} {lost lost' : List Nat} (h : LostIs m lost) (hnow : m.now = ages m.safe m.moves) (h1 : lost'.Nodup) (h2 : ∀ b ∈ lost', b ∉ files (v.on m.now)) (h3 : ∀ b ∈ files m.now, b ∈ files (v.on m.now) ∨ b ∈ lost') (h4 : ∀ b ∈ lost, b ∈ lost')
    (h5 : ∀ b ∈ lost', b ∈ lost ∨ b ∈ files m.now) (h6 : gn = sumf fl lost') : LostIs {m with now := v.on m.now, moves := m.moves ++ [v], fl := fl, named := nd, gone := gn} lost' := by
  have e : ages m.safe (m.moves ++ [v]) = v.on m.now := by rw [hnow]; simp [ages]
  refine ⟨h1, h2, ?_, ?_, h6⟩
  · intro k hk b hb
    show b ∈ files (v.on m.now) ∨ _
    simp only [List.length_append, List.length_cons, List.length_nil] at hk
    rcases Nat.lt_or_ge m.moves.length k with h' | h'
    · have hb : b ∈ files (ages m.safe ((m.moves ++ [v]).take k)) := hb
      rw [List.take_of_length_le (by simp; omega), e] at hb
      exact Or.inl hb
    · have hb : b ∈ files (ages m.safe ((m.moves ++ [v]).take k)) := hb
      rw [List.take_append_of_le_length h'] at hb
      rcases h.all k h' b hb with h' | h'
      · exact h3 b h'
      · exact Or.inr (h4 b h')
  · intro b hb
    rcases h5 b hb with h' | h'
    · obtain ⟨k, hk, hb⟩ := h.some b h'
      refine ⟨k, by simp; omega, ?_⟩
      show b ∈ files (ages m.safe ((m.moves ++ [v]).take k))
      rw [List.take_append_of_le_length hk]; exact hb
    · refine ⟨m.moves.length, by simp, ?_⟩
      show b ∈ files (ages m.safe ((m.moves ++ [v]).take m.moves.length))
      rw [List.take_append_of_le_length (Nat.le_refl _), List.take_length, ← hnow]; exact h'
end Go.Proofs.Ytkalgonkaoiapaa.Shf
