/- The law's own awake; what is like the change ahead takes few bytes. -/
import Derived.Test.YtmkclggnbnomhaaCn
namespace Go.Proofs.Ytmkclggnbnomhaa.Chg
open Coin
open Go.ChangeShapes Go.WideShapes Go.ChangeAt Go.RowKit

def C.zero : C := ⟨0, 0, false, 0, 0, 0, 0, 0⟩
theorem C.zero_ok : C.zero.Ok := by unfold C.Ok C.zero; decide
theorem awake_enc : C.zero.enc ⟨1, 0, false, 167772160, 8, 0, 0, 1⟩ = [0, 128, 128, 10, 0, 0, 1] := by decide +kernel
theorem awake_any (w : World) : Calls Try.prog 7 #[] w fun e w' => e = .returned (.bool true) ∧ Below w.heap.size w w' := by
  have c9 : ∀ W, Calls Try.prog 9 #[.agg #[.int .u64 0, .int .u64 0, .bool false, .int .u32 0, .int .u8 0, .int .i64 0, .int .u16 0, .int .u16 0], .agg #[.int .u64 1, .int .u64 0, .bool false, .int .u32 167772160, .int .u8 8, .int .i64 0, .int .u16 0, .int .u16 1]] W (CoinOwn W [0, 128, 128, 10, 0, 0, 1]) := fun W => by
    have h := enc_any C.zero ⟨1, 0, false, 167772160, 8, 0, 0, 1⟩ C.zero_ok (by unfold C.Ok; decide) (by unfold C.After C.zero; decide) W
    rw [awake_enc] at h
    exact h
  have e : ((str [0, 128, 128, 10, 0, 0, 1]).toList == [0, 128, 128, 10, 0, 0, 1]) = true := by rw [str_toList]; decide
  go_enter Try.func7, Try.ntmps7
  go_wp2_with (first
    | (go_at_call 9; (with_reducible refine (c9 _).mono ?_); rintro e w1 ⟨v, rfl, O, B⟩; clear c9; obtain ⟨A, c, hv, R, _, _⟩ := O.form; subst hv; have cv := conv_any R 7 c rfl; have B1 := ((Below.refl w.heap.size w).alloc (Nat.le_refl _) (.cells #[.int .u64 1, .int .u64 0, .bool false, .int .u32 167772160, .int .u8 8, .int .i64 0, .int .u16 0, .int .u16 1] 34)).trans (B.mono (by simp)); clear O R B; generalize str [0, 128, 128, 10, 0, 0, 1] = t at *))
  go_ret
  exact ⟨rfl, B1⟩
theorem same_self : ∀ l : List UInt8, same l l = l.length
  | [] => rfl
  | x :: xs => by unfold same; rw [if_pos rfl, same_self xs]; rfl
theorem sz_one {n : Nat} (h : n < 128) : sz n = 1 := by unfold sz; rw [if_pos h]
theorem sz_two {n : Nat} (h : n < 16384) : sz n ≤ 2 := by unfold sz; split; · omega
                                                          · exact Nat.le_refl _
/-- The same prefix again. -/
theorem short_len (l c : C) (h1 : c.addr = l.addr) (h2 : c.len = l.len) (h3 : c.len ≤ 32) (h4 : c.time - l.time < 128) : (l.enc c).length ≤ 3 + (l.tail c).length := by
  have hs : l.same c = (begun c.addr c.len).length := by unfold C.same; rw [h1, h2, same_self]
  have hh := head_lt l c h3
  have e1 := sz_one h4
  have e2 := sz_two (n := l.head c) (by omega)
  unfold C.enc
  rw [hs, List.drop_length]
  simp only [List.length_append, length_coin, List.length_nil]
  omega
end Go.Proofs.Ytmkclggnbnomhaa.Chg
