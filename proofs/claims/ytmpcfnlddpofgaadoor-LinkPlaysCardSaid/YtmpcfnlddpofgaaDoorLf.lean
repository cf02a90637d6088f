/- Links: one that dies. -/
import Derived.Test.YtmpcfnlddpofgaaDoorLe
namespace Go.Proofs.YtmpcfnlddpofgaaDoor.Lk
open Go.ChangeShapes Go.WideShapes Go.ChangeAt Go.RowKit
set_option linter.unusedVariables false

theorem sh_sh (c k j : Nat) : sh (sh c k) j = sh c (k + j) := by
  induction j with
  | zero => rw [sh_zero _ (sh_lt c k)]; rfl
  | succ j ih => rw [← sh_succ, ih, sh_succ]; rfl
theorem after_ok (l : L) (now k : Nat) (hok : l.Ok) (h : Ticked l now k) (hnow : now ≤ 4611686018427387000) : (l.after k now).Ok := by
  refine ⟨sh_lt _ _, hok.n, ?_, ?_, hok.h⟩
  · unfold L.after; simp only
    rcases Nat.eq_zero_or_pos k with h0 | h0
    · subst h0; have := hok.m; omega
    · have := (h.1 (k - 1) (by omega)).2; omega
  · unfold L.after; simp only
    split
    · omega
    · exact hok.t
structure Hel (w0 w : World) (q i T : Nat) : Prop where
  go : ∃ l : L, In w0 w q l ∧ l.Ok ∧ ((i = 0 ∧ l.c = 0) ∨ (1 ≤ i ∧ l.c % 2 = 1 ∧ l.n + 1 = i ∧ l.m = T + 6 ∧ (2 ≤ i → l.c % 4 = 3)))
theorem Hel.round {w0 w : World} {q i T : Nat} (h : Hel w0 w q i T) (hi : i ≤ 1000) (T' : Nat) (hT : T' ≤ 1000000) :
    Calls Tryd.prog 10 #[.pointer (some ⟨q, 0, none⟩), .int .u64 i, .int .u64 T'] w fun e w' => e = .returned (.tuple #[]) ∧ Hel w0 w' q (i + 1) T' := by
  obtain ⟨l, hi', hok, hs⟩ := h.go
  refine (in_hello hi' hok i T' (by omega) (by omega)).mono fun e w' ⟨he, hj⟩ => ⟨he, ⟨_, hj, hello_ok l i T' hok (by omega) (by omega), .inr ⟨by omega, (hello_c l i T').1, rfl, rfl, fun h2 => ?_⟩⟩⟩
  rcases hs with ⟨h0, _⟩ | ⟨_, hc, hn, _, _⟩
  · omega
  · rw [hello_next l i T' hc hn.symm]
    show (l.c * 2 % 65536 + 1) % 4 = 3
    omega
structure Dies (w0 w : World) (q T j : Nat) (l : L) (k c0 : Nat) : Prop where
  in' : In w0 w q l
  ok : l.Ok
  c : l.c = sh c0 k
  m : l.m = T + 6 + 6 * k
  e : l.c = 0 ∨ j < 6 + 6 * k
  h : l.h = T + 20
  t : 20 ≤ j → l.t = 65535
/-- Behind the hellos, and what is heard. -/
theorem Hel.dies {w0 w : World} {q i T : Nat} (h : Hel w0 w q i T) (hi : 2 ≤ i) (hT : T ≤ 1000000) (C : Nat) (hC : C < 65536) :
    Calls Tryd.prog 11 #[.pointer (some ⟨q, 0, none⟩), .int .u16 C, .int .u64 T] w fun e w' => e = .returned (.tuple #[]) ∧ ∃ l c0, Hid (Dies w0 w' q T 0 l 0 c0 ∧ l.cost = max C 1 ∧ l.c ≠ 0) := by
  obtain ⟨l, hi', hok, hs⟩ := h.go
  rcases hs with ⟨h0, _⟩ | ⟨_, hc, hn, hm, h4⟩
  · omega
  · refine (in_heard hi' C T hC (by omega)).mono fun e w' ⟨he, hj⟩ => ⟨he, _, l.c, Lib.hid ⟨⟨hj, heard_ok l C T hok hC (by omega), (sh_zero _ hok.c).symm, hm, .inr (by omega), rfl, by omega⟩, ?_, ?_⟩⟩
    · unfold L.cost recv L.heard
      simp only
      have := h4 hi
      rw [if_pos (by rw [if_pos (by omega)])]
    · show l.c ≠ 0
      omega
theorem Dies.next {w0 w : World} {q T j k c0 : Nat} {l : L} (h : Dies w0 w q T j l k c0) (hT : T + j + 1 ≤ 1000000) :
    Calls Tryd.prog 12 #[.pointer (some ⟨q, 0, none⟩), .int .u64 ((T + j + 1 : Nat) : Int)] w fun e w' => e = .returned (.tuple #[]) ∧ ∃ l k, Hid (Dies w0 w' q T (j + 1) l k c0) := by
  refine (in_tick h.in' h.ok (T + j + 1) (by omega)).mono fun e w' ⟨he, k', hk⟩ => ⟨he, l.after k' (T + j + 1), k + k', Lib.hid ⟨hk.out.2, after_ok l _ _ h.ok hk.out.1 (by omega), ?_, ?_, ?_, h.h, ?_⟩⟩
  · show sh l.c k' = _
    rw [h.c, sh_sh]
  · show l.m + 6 * k' = _
    rw [h.m]; omega
  · show sh l.c k' = 0 ∨ _
    rcases hk.out.1.2 with h0 | h0
    · exact .inl h0
    · right; rw [h.m] at h0; omega
  · intro hj
    show (if l.h ≤ T + j + 1 then 65535 else l.t) = 65535
    rw [if_pos (by rw [h.h]; omega)]
theorem Dies.lost {w0 w : World} {q T k c0 : Nat} {l : L} (h : Dies w0 w q T 20 l k c0) : l.cost = 65535 := by
  unfold L.cost
  rw [h.t (by omega)]
  split <;> rfl
theorem Dies.gone {w0 w : World} {q T k c0 : Nat} {l : L} (h : Dies w0 w q T 140 l k c0) : l.c = 0 := by
  rcases h.e with h0 | h0
  · exact h0
  · rw [h.c]; exact sh_16 _ _ (by omega)
theorem Dies.keep {w0 w w' : World} {q T j k c0 : Nat} {l : L} (h : Dies w0 w q T j l k c0) (hi : In w0 w' q l) : Dies w0 w' q T j l k c0 := { h with in' := hi }
end Go.Proofs.YtmpcfnlddpofgaaDoor.Lk
