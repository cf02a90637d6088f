/- Links: one that lives, and one that dies. -/
import Derived.Test.YtmpcfnlddpofgaaDoorLd
namespace Go.Proofs.YtmpcfnlddpofgaaDoor.Lk
open Go.ChangeShapes Go.WideShapes Go.ChangeAt Go.RowKit
set_option linter.unusedVariables false

theorem tz_odd (c : Nat) (h : c % 2 = 1) : tz c = 0 := by
  unfold tz Lib.ctz
  rw [if_neg (by omega)]
  simp [Lib.ctzFrom, h]
theorem hello_next (l : L) (n now : Nat) (h : l.c % 2 = 1) (hn : n = l.n + 1) : l.hello n now = ⟨(l.c * 2 % 65536) + 1, n, now + 6, l.t, l.h⟩ := by
  have e : l.steps n = 1 := by
    unfold L.steps; rw [tz_odd _ h, if_neg (by omega)]; omega
  unfold L.hello
  rw [e]
  rfl
theorem hello_first (l : L) (n now : Nat) (h : l.c = 0) : (l.hello n now).c = 1 := by
  unfold L.hello
  simp only [h]
  unfold sh
  simp
theorem hello_rest (l : L) (n now : Nat) : (l.hello n now).n = n ∧ (l.hello n now).m = now + 6 ∧ (l.hello n now).t = l.t ∧ (l.hello n now).h = l.h := ⟨rfl, rfl, rfl, rfl⟩
theorem hello_c (l : L) (n now : Nat) : (l.hello n now).c % 2 = 1 ∧ (l.hello n now).c < 65536 := by
  have := sh_even l.c (l.steps n) (steps_pos l n)
  unfold L.hello
  simp only
  omega
theorem hello_ok (l : L) (n now : Nat) (h : l.Ok) (hn : n ≤ 4611686018427387904) (hnow : now ≤ 4611686018427387000) : (l.hello n now).Ok :=
  ⟨(hello_c l n now).2, hn, by rw [(hello_rest l n now).2.1]; omega, h.t, h.h⟩
theorem heard_ok (l : L) (c now : Nat) (h : l.Ok) (hc : c < 65536) (hnow : now ≤ 4611686018427387000) : (l.heard c now).Ok :=
  ⟨h.c, h.n, h.m, by unfold L.heard; simp only; omega, by unfold L.heard; simp only; omega⟩
theorem new_ok (now : Nat) (hnow : now ≤ 4611686018427387000) : (L.new now).Ok := by
  constructor <;> simp [L.new] <;> omega
theorem ticked_none (l : L) (now k : Nat) (hok : l.Ok) (h : Ticked l now k) (hm : now < l.m) (hh : now < l.h) : l.after k now = l := by
  have hk : k = 0 := by
    rcases Nat.eq_zero_or_pos k with h0 | h0
    · exact h0
    · have := (h.1 0 h0).2; omega
  subst hk
  unfold L.after
  rw [sh_zero _ hok.c, if_neg (by omega)]
  rfl
/-- A quiet tick. -/
theorem in_still {w0 w : World} {q : Nat} {l : L} (h : In w0 w q l) (hok : l.Ok) (now : Nat) (hnow : now ≤ 4611686018427387000) (hm : now < l.m) (hh : now < l.h) :
    Calls Tryd.prog 12 #[.pointer (some ⟨q, 0, none⟩), .int .u64 now] w fun e w' => e = .returned (.tuple #[]) ∧ In w0 w' q l :=
  (in_tick h hok now hnow).mono fun _ _ ⟨e, k, hk⟩ => ⟨e, by have := hk.out.2; rwa [ticked_none l now k hok hk.out.1 hm hh] at this⟩
structure Lives (w0 w : World) (q k T : Nat) : Prop where
  go : ∃ l : L, In w0 w q l ∧ l.Ok ∧ ((k = 0 ∧ l.c = 0) ∨ (1 ≤ k ∧ l.c % 2 = 1 ∧ l.n + 1 = k))
/-- What a round's hello, and what is heard, leave. -/
structure Said (w0 w : World) (q k T C : Nat) (l : L) : Prop where
  in' : In w0 w q l
  ok : l.Ok
  c : l.c % 2 = 1
  two : 1 ≤ k → l.c % 4 = 3
  n : l.n = k
  m : l.m = T + 6
  t : l.t = max C 1
  h : l.h = T + 20
theorem Lives.round {w0 w : World} {q k T : Nat} (h : Lives w0 w q k T) (hk : k ≤ 1000) (hT : T ≤ 1000000) (C : Nat) (hC : C < 65536) :
    Calls Tryd.prog 10 #[.pointer (some ⟨q, 0, none⟩), .int .u64 k, .int .u64 T] w fun e w' => e = .returned (.tuple #[]) ∧
      Calls Tryd.prog 11 #[.pointer (some ⟨q, 0, none⟩), .int .u16 C, .int .u64 T] w' fun e w' => e = .returned (.tuple #[]) ∧ ∃ l, Hid (Said w0 w' q k T C l) := by
  obtain ⟨l, hi, hok, hs⟩ := h.go
  refine (in_hello hi hok k T (by omega) (by omega)).mono fun e w' ⟨he, hi'⟩ => ⟨he, ?_⟩
  have hok' := hello_ok l k T hok (by omega) (by omega)
  refine (in_heard hi' C T hC (by omega)).mono fun e w'' ⟨he, hi''⟩ => ⟨he, _, Lib.hid ⟨hi'', heard_ok _ _ _ hok' hC (by omega), (hello_c l k T).1, fun h1 => ?_, rfl, rfl, rfl, rfl⟩⟩
  rcases hs with ⟨h0, _⟩ | ⟨_, hc, hn⟩
  · omega
  · show (l.hello k T).c % 4 = 3
    rw [hello_next l k T hc hn.symm]
    show (l.c * 2 % 65536 + 1) % 4 = 3
    omega
theorem Said.cost {w0 w : World} {q k T C : Nat} {l : L} (h : Said w0 w q k T C l) (hk : 1 ≤ k) : l.cost = max C 1 := by
  unfold L.cost recv
  have := h.two hk
  rw [if_pos (by rw [if_pos (by omega)]), h.t]
theorem Said.lives {w0 w : World} {q k T C : Nat} {l : L} (h : Said w0 w q k T C l) (T' : Nat) : Lives w0 w q (k + 1) T' := ⟨l, h.in', h.ok, .inr ⟨by omega, h.c, by rw [h.n]⟩⟩
theorem Said.next {w0 w w' : World} {q k T C : Nat} {l : L} (h : Said w0 w q k T C l) (hi : In w0 w' q l) : Said w0 w' q k T C l := { h with in' := hi }
end Go.Proofs.YtmpcfnlddpofgaaDoor.Lk
