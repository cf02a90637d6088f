/- The document's own shelf: what stays true of it, act by act. Nothing of the program. -/
import Derived.Test.YtkalgonkaoiapaaRfn
import Derived.Test.YtkalgonkaoiapaaRfi
import Derived.Test.YtkalgonkaoiapaaRfo
namespace Go.Proofs.Ytkalgonkaoiapaa.Shf
open Go.ChangeShapes Go.WideShapes Go.ChangeAt Go.RowKit

/-- Behind i acts it is as small as this, and no name is without its file. -/
structure X.Inv (i : Nat) (x : X) : Prop where
  done : 0 ≤ x.done ∧ x.done ≤ i
  left : -1 ≤ x.left ∧ x.left ≤ 1000
  now : x.now.length ≤ i
  was : x.was.length ≤ i + 1
  fl : x.L.length ≤ i
  wl : ∀ l ∈ x.was, l.length ≤ i
  sh : ∀ p ∈ x.L, p.1.length ≤ 60 * i
  good : x.Good
  okay : Okay x.L
theorem X.Inv.fits {i : Nat} {x : X} (h : x.Inv i) (hi : i ≤ 1000) : x.Fits :=
  ⟨⟨h.done.1, by have := h.done.2; omega⟩, h.left, by have := h.now; omega, by have := h.was; omega, by have := h.fl; omega⟩
theorem X.Inv.short {i : Nat} {x : X} (h : x.Inv i) (hi : i ≤ 1000) : Short x.L := fun p hp => by have := h.sh p hp; omega
theorem X.Inv.wasl {i : Nat} {x : X} (h : x.Inv i) (hi : i ≤ 1000) : ∀ l ∈ x.was, l.length ≤ 1000000 := fun l hl => by have := h.wl l hl; omega
theorem X.Inv.mono {i : Nat} {x : X} (h : x.Inv i) : x.Inv (i + 1) :=
  ⟨⟨h.done.1, by have := h.done.2; omega⟩, h.left, by have := h.now; omega, by have := h.was; omega, by have := h.fl; omega, fun l hl => by have := h.wl l hl; omega, fun p hp => by have := h.sh p hp; omega, h.good, h.okay⟩
theorem X.new_inv (room : Int) : (X.new room).Inv 0 :=
  ⟨⟨Int.le_refl _, by show (0 : Int) ≤ _; omega⟩, by show (-1 : Int) ≤ -1 ∧ (-1 : Int) ≤ 1000; omega, Nat.le_refl _, Nat.le_refl _, Nat.le_refl _, fun l hl => by simp [X.new] at hl; subst hl; simp, fun p hp => by simp [X.new] at hp,
   ⟨fun p hp => by simp [X.new] at hp, fun l hl p hp => by simp [X.new] at hl; subst hl; simp at hp, by simp [X.new]⟩, fun p hp => by simp [X.new] at hp⟩
theorem X.act_same (x : X) : x.act.L = x.L ∧ x.act.now = x.now ∧ x.act.was = x.was := by
  unfold X.act; split <;> exact ⟨rfl, rfl, rfl⟩
theorem X.Inv.act {i : Nat} {x : X} (h : x.Inv i) : x.act.Inv (i + 1) := by
  have m := h.mono
  unfold X.act
  split
  · exact ⟨m.done, m.left, m.now, m.was, m.fl, m.wl, m.sh, ⟨m.good.now, m.good.was, m.good.some⟩, m.okay⟩
  · refine ⟨⟨?_, ?_⟩, ?_, m.now, m.was, m.fl, m.wl, m.sh, ⟨m.good.now, m.good.was, m.good.some⟩, m.okay⟩
    · show 0 ≤ x.done + 1; have := h.done; omega
    · show x.done + 1 ≤ ((i + 1 : Nat) : Int); have := h.done; omega
    · have := h.left
      show -1 ≤ (if 0 < x.left then x.left - 1 else x.left) ∧ (if 0 < x.left then x.left - 1 else x.left) ≤ 1000
      split <;> omega
theorem wo_mem {l : List (S × Nat)} {s : S} {p : S × Nat} (h : p ∈ wo l s) : p ∈ l := (List.mem_filter.1 h).1
theorem wo_le (l : List (S × Nat)) (s : S) : (wo l s).length ≤ l.length := List.length_filter_le _ _
theorem wi_mem {l : List (S × Nat)} {s : S} {f : Nat} {p : S × Nat} (h : p ∈ wi l s f) : p ∈ l ∨ p.2 = f := by
  unfold wi at h
  rcases List.mem_append.1 h with h | h
  · exact .inl (wo_mem h)
  · rw [List.mem_singleton] at h; exact .inr (by rw [h])
theorem wi_le (l : List (S × Nat)) (s : S) (f : Nat) : (wi l s f).length ≤ l.length + 1 := by
  unfold wi; rw [List.length_append]; have := wo_le l s; simp; exact this
/-- Names moved. -/
theorem X.Inv.move {i : Nat} {x : X} (h : x.Inv i) (l : List (S × Nat)) (hl : l.length ≤ i + 1) (hg : ∀ p ∈ l, p.2 < x.L.length) : ({ x.act with now := l, was := x.was ++ [l] } : X).Inv (i + 1) := by
  have a := h.act
  obtain ⟨e1, e2, e3⟩ := x.act_same
  refine ⟨a.done, a.left, hl, ?_, a.fl, ?_, a.sh, ⟨?_, ?_, by simp⟩, a.okay⟩
  · show (x.was ++ [l]).length ≤ _; rw [List.length_append]; have := h.was; simp; omega
  · intro l' hl'
    rcases List.mem_append.1 hl' with h' | h'
    · have := h.wl l' h'; omega
    · rw [List.mem_singleton] at h'; rw [h']; exact hl
  · intro p hp; show p.2 < x.act.L.length; rw [e1]; exact hg p hp
  · intro l' hl' p hp
    show p.2 < x.act.L.length
    rw [e1]
    rcases List.mem_append.1 hl' with h' | h'
    · exact h.good.was l' h' p hp
    · rw [List.mem_singleton] at h'; rw [h'] at hp; exact hg p hp
/-- A file changed. -/
theorem X.Inv.change {i : Nat} {x : X} (h : x.Inv i) (f : Nat) (q : S × Int) (hq : q.1.length ≤ 60 * (i + 1)) (ho : 0 ≤ q.2 ∧ q.2 ≤ (q.1.length : Int)) : ({ x.act with L := x.L.set f q } : X).Inv (i + 1) := by
  have a := h.act
  obtain ⟨e1, e2, e3⟩ := x.act_same
  have hm : ∀ p ∈ x.L.set f q, p ∈ x.L ∨ p = q := fun p hp => List.mem_or_eq_of_mem_set hp
  refine ⟨a.done, a.left, a.now, a.was, ?_, a.wl, ?_, ⟨?_, ?_, a.good.some⟩, ?_⟩
  · show (x.L.set f q).length ≤ _; rw [List.length_set]; have := h.fl; omega
  · intro p hp
    rcases hm p hp with hp | rfl
    · have := h.sh p hp; omega
    · exact hq
  · intro p hp; show p.2 < (x.L.set f q).length; rw [List.length_set, ← e1]; exact a.good.now p hp
  · intro l hl p hp; show p.2 < (x.L.set f q).length; rw [List.length_set, ← e1]; exact a.good.was l hl p hp
  · intro p hp
    rcases hm p hp with hp | rfl
    · exact h.okay p hp
    · exact ho
theorem getD_mem {x : X} {f : Nat} (hf : f < x.L.length) : x.L.getD f ([], 0) ∈ x.L := by
  rw [List.getD_eq_getElem?_getD, List.getElem?_eq_getElem hf]; exact List.getElem_mem hf
theorem X.Inv.delete {i : Nat} {x : X} (h : x.Inv i) (s : S) : (x.delete s).1.Inv (i + 1) := by
  unfold X.delete
  split
  · exact h.act
  · split
    · exact h.act
    · exact h.move _ (by have := wo_le x.now s; have := h.now; omega) (fun p hp => h.good.now p (wo_mem hp))
theorem X.Inv.rename {i : Nat} {x : X} (h : x.Inv i) (s t : S) : (x.rename s t).1.Inv (i + 1) := by
  unfold X.rename
  split
  · split
    · exact h.act
    · split
      · exact h.act
      · rename_i f hf
        split
        · exact h.act
        · refine h.move _ (by have := wi_le (wo x.now s) t f; have := wo_le x.now s; have := h.now; omega) (fun p hp => ?_)
          rcases wi_mem hp with hp | hp
          · exact h.good.now p (wo_mem hp)
          · rw [hp]; exact h.good.now _ (got_mem hf)
  · exact h.mono
theorem X.Inv.create {i : Nat} {x : X} (h : x.Inv i) (s : S) : (x.create s).1.Inv (i + 1) := by
  unfold X.create
  split
  · split
    · exact h.act
    · split
      · exact h.act
      · have a := h.move (x := x) (wo x.now s) (by have := wo_le x.now s; have := h.now; omega) (fun p hp => h.good.now p (wo_mem hp))
        have hn : (wi x.now s x.L.length).length ≤ i + 1 := by have := wi_le x.now s x.L.length; have := h.now; omega
        have hlt : ∀ p ∈ wi x.now s x.L.length, p.2 < x.L.length + 1 := fun p hp => by
          rcases wi_mem hp with hp | hp
          · have := h.good.now p hp; omega
          · omega
        refine ⟨a.done, a.left, hn, ?_, ?_, ?_, ?_, ⟨?_, ?_, by simp⟩, ?_⟩
        · show (x.was ++ [wi x.now s x.L.length]).length ≤ _; rw [List.length_append]; have := h.was; simp; omega
        · show (x.L ++ [(([] : S), (0 : Int))]).length ≤ _; rw [List.length_append]; have := h.fl; simp; omega
        · intro l' hl'
          rcases List.mem_append.1 hl' with h' | h'
          · have := h.wl l' h'; omega
          · rw [List.mem_singleton] at h'; rw [h']; exact hn
        · intro p hp
          rcases List.mem_append.1 hp with h' | h'
          · have := h.sh p h'; omega
          · rw [List.mem_singleton] at h'; rw [h']; exact Nat.zero_le _
        · intro p hp; show p.2 < (x.L ++ [(([] : S), (0 : Int))]).length; rw [List.length_append]; exact hlt p hp
        · intro l' hl' p hp
          show p.2 < (x.L ++ [(([] : S), (0 : Int))]).length
          rw [List.length_append]
          rcases List.mem_append.1 hl' with h' | h'
          · have := h.good.was l' h' p hp; simp; omega
          · rw [List.mem_singleton] at h'; rw [h'] at hp; exact hlt p hp
        · intro p hp
          rcases List.mem_append.1 hp with h' | h'
          · exact h.okay p h'
          · rw [List.mem_singleton] at h'; rw [h']; exact ⟨Int.le_refl _, Int.le_refl _⟩
  · exact h.mono
theorem X.Inv.sync {i : Nat} {x : X} (h : x.Inv i) (s : S) : (x.sync s).1.Inv (i + 1) := by
  unfold X.sync
  split
  · exact h.act
  · split
    · exact h.act
    · rename_i f hf
      have hm : x.L.getD f ([], 0) ∈ x.L := getD_mem (h.good.now _ (got_mem hf))
      exact h.change _ _ (by have := h.sh _ hm; show (x.L.getD f ([], 0)).1.length ≤ _; omega) ⟨Int.natCast_nonneg _, Int.le_refl _⟩
theorem X.Inv.cut {i : Nat} {x : X} (h : x.Inv i) (s : S) (n : Int) : (x.cut s n).1.Inv (i + 1) := by
  unfold X.cut
  split
  · exact h.act
  · split
    · exact h.act
    · rename_i f hf
      have hm : x.L.getD f ([], 0) ∈ x.L := getD_mem (h.good.now _ (got_mem hf))
      split
      · exact h.act
      · rename_i hn
        have hs := h.sh _ hm
        refine h.change _ _ ?_ ⟨by show 0 ≤ n; omega, ?_⟩
        · show ((x.L.getD f ([], 0)).1.take n.toNat).length ≤ _; rw [List.length_take]; omega
        · show n ≤ (((x.L.getD f ([], 0)).1.take n.toNat).length : Int); rw [List.length_take]; omega
theorem X.Inv.append {i : Nat} {x : X} (h : x.Inv i) (s p : S) (hp : p.length ≤ 60) : (x.append s p).1.Inv (i + 1) := by
  unfold X.append
  split
  · exact h.act
  · split
    · exact h.act
    · rename_i f hf
      have hm : x.L.getD f ([], 0) ∈ x.L := getD_mem (h.good.now _ (got_mem hf))
      split
      · exact h.act
      · have hs := h.sh _ hm
        have ho := h.okay _ hm
        refine h.change _ _ ?_ ⟨ho.1, ?_⟩
        · show ((x.L.getD f ([], 0)).1 ++ p).length ≤ _; rw [List.length_append]; omega
        · show (x.L.getD f ([], 0)).2 ≤ (((x.L.getD f ([], 0)).1 ++ p).length : Int); rw [List.length_append]; omega
theorem X.Inv.names {i : Nat} {x : X} (h : x.Inv i) : (if x.stop then x.act else { x.act with was := [x.now] }).Inv (i + 1) := by
  have a := h.act
  obtain ⟨e1, e2, e3⟩ := x.act_same
  split
  · exact a
  · refine ⟨a.done, a.left, a.now, by show 1 ≤ _; omega, a.fl, ?_, a.sh, ⟨a.good.now, ?_, by simp⟩, a.okay⟩
    · intro l hl; rw [List.mem_singleton] at hl; rw [hl]; have := h.now; omega
    · intro l hl p hp; rw [List.mem_singleton] at hl; rw [hl] at hp; show p.2 < x.act.L.length; rw [e1]; exact h.good.now p hp
theorem len_fallS {b : Int} {B : Nat} {L : List (S × Int)} (h : ∀ p ∈ L, p.1.length ≤ B) (p : S × Nat) (hp : p.2 < L.length) : ∀ q ∈ fallS b L p, q.1.length ≤ B := by
  intro q hq
  rcases List.mem_or_eq_of_mem_set hq with hq | rfl
  · exact h q hq
  · have e : L.getD p.2 ([], 0) = L[p.2] := by rw [List.getD_eq_getElem?_getD, List.getElem?_eq_getElem hp]; rfl
    have h1 := h L[p.2] (List.getElem_mem hp)
    rw [e]
    unfold keepF
    show ((L[p.2]).1.take _).length ≤ _
    rw [List.length_take]
    exact Nat.le_trans (Nat.min_le_right _ _) h1
theorem len_fallL {b : Int} {B : Nat} (l : List (S × Nat)) : ∀ {L : List (S × Int)}, (∀ p ∈ L, p.1.length ≤ B) → (∀ p ∈ l, p.2 < L.length) → ∀ p ∈ fallL b L l, p.1.length ≤ B := by
  induction l with
  | nil => intro L h _; exact h
  | cons p l ih =>
    intro L h hl
    exact ih (len_fallS h p (hl p (by simp))) (fun q hq => by rw [fallS_len]; exact hl q (by simp [hq]))
theorem X.Inv.fall {i : Nat} {x : X} (h : x.Inv i) (n b : Int) : (x.fall n b).Inv (i + 1) := by
  unfold X.fall
  dsimp only
  generalize (if ((x.was.length : Int) - 1) < (if n < 0 then 0 else n) then (x.was.length : Int) - 1 else (if n < 0 then 0 else n)).toNat = k
  have hb0 : (0 : Int) ≤ (if b < 0 then 0 else b) := by split <;> omega
  generalize (if b < 0 then 0 else b) = c at *
  have hm : x.was.getD k [] ∈ x.was ∨ x.was.getD k [] = [] := by
    rw [List.getD_eq_getElem?_getD]
    cases e : x.was[k]? with
    | none => exact .inr rfl
    | some l => exact .inl (List.mem_of_getElem? e)
  generalize x.was.getD k [] = now at *
  have hg : ∀ p ∈ now, p.2 < x.L.length := fun p hp => by
    rcases hm with hm | hm
    · exact h.good.was _ hm p hp
    · rw [hm] at hp; simp at hp
  have hl : now.length ≤ i := by
    rcases hm with hm | hm
    · exact h.wl _ hm
    · rw [hm]; exact Nat.zero_le _
  have m := h.mono
  refine ⟨m.done, by show (-1 : Int) ≤ -1 ∧ (-1 : Int) ≤ 1000; omega, by show now.length ≤ _; omega, by show 1 ≤ _; omega, ?_, ?_, ?_, ⟨?_, ?_, by simp⟩, ?_⟩
  · show (fallL c x.L now).length ≤ _; rw [fallL_len]; exact m.fl
  · intro l hl'; rw [List.mem_singleton] at hl'; rw [hl']; omega
  · exact len_fallL now m.sh hg
  · intro p hp; show p.2 < (fallL c x.L now).length; rw [fallL_len]; exact hg p hp
  · intro l hl' p hp; rw [List.mem_singleton] at hl'; rw [hl'] at hp; show p.2 < (fallL c x.L now).length; rw [fallL_len]; exact hg p hp
  · exact Okay.fallL hb0 now h.okay hg
theorem X.Inv.arm {i : Nat} {x : X} (h : x.Inv i) (l : Int) (hl : -1 ≤ l ∧ l ≤ 1000) : ({ x with left := l } : X).Inv (i + 1) :=
  have m := h.mono
  ⟨m.done, hl, m.now, m.was, m.fl, m.wl, m.sh, ⟨m.good.now, m.good.was, m.good.some⟩, m.okay⟩
theorem X.Inv.room {i : Nat} {x : X} (h : x.Inv i) (r : Int) : ({ x with room := r } : X).Inv (i + 1) :=
  have m := h.mono
  ⟨m.done, m.left, m.now, m.was, m.fl, m.wl, m.sh, ⟨m.good.now, m.good.was, m.good.some⟩, m.okay⟩
end Go.Proofs.Ytkalgonkaoiapaa.Shf
