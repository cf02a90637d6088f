/- Contracts of the small functions of package change, and of the document's own answers. -/
import Derived.Test.YtcgncecjbkpmkaaCm
namespace Go.Proofs.Ytcgncecjbkpmkaa.Chg
open Coin
open Go.ChangeShapes Go.WideShapes Go.ChangeAt Go.RowKit

theorem bst {w W w1 : World} (h : Below w.heap.size w W) (hb : Below W.heap.size W w1) : Below w.heap.size w w1 := h.trans (hb.mono h.size)
theorem wrap_u8 (n : Nat) : IntKind.u8.wrap (n : Int) = ((n % 256 : Nat) : Int) := by rw [IntKind.wrap_u8']; omega

/-- It answers a bool. -/
def IsB (e : Ending) : Prop := ∃ x, e = .returned (.bool x)
theorem rnewer_any (a b : Int) (ha : 0 ≤ a ∧ a ≤ 65535) (hb : 0 ≤ b ∧ b ≤ 65535) (w : World) :
    Calls Try.prog 47 #[.int .u16 a, .int .u16 b] w fun e w' => IsB e ∧ w = w' := by
  go_enter Try.func47, Try.ntmps47
  go_wp2
  · go_ret
    exact ⟨⟨_, rfl⟩, rfl⟩
  · go_ret
    exact ⟨⟨_, rfl⟩, rfl⟩

theorem rnearer_any (a b c d : Int) (ha : 0 ≤ a ∧ a ≤ 65535) (hc : 0 ≤ c ∧ c ≤ 65535) (w : World) :
    Calls Try.prog 26 #[.agg #[.int .u16 a, .int .u16 b], .agg #[.int .u16 c, .int .u16 d]] w fun e w' => IsB e ∧ Below w.heap.size w w' := by
  by_cases h : a = c
  · have h' : (a == c) = true := by simp [h]
    go_enter Try.func26, Try.ntmps26
    go_wp2
    go_ret
    exact ⟨⟨_, rfl⟩, ((Below.refl _ _).alloc (Nat.le_refl _) _).alloc (by simp) _⟩
  · have h' : (a == c) = false := by simp [h]
    go_enter Try.func26, Try.ntmps26
    go_wp2_with (go_at_call 47; refine (rnewer_any a c ha hc _).mono ?_; rintro e w' ⟨⟨x, rfl⟩, rfl⟩)
    go_ret
    exact ⟨⟨_, rfl⟩, ((Below.refl _ _).alloc (Nat.le_refl _) _).alloc (by simp) _⟩

theorem follows_any (no time a n via m s no' time' a' n' via' m' s' : Nat) (g g' : Bool) (h1 : no' = no + 1) (h2 : time ≤ time') (h3 : no' < 18446744073709551616) (w : World) :
    Calls Try.prog 39 #[.agg #[.int .u64 no, .int .u64 time, .bool g, .int .u32 a, .int .u8 n, .int .i64 via, .int .u16 m, .int .u16 s], .agg #[.int .u64 no', .int .u64 time', .bool g', .int .u32 a', .int .u8 n', .int .i64 via', .int .u16 m', .int .u16 s']] w fun e w' => e = .returned (.bool true) ∧ Below w.heap.size w w' := by
  subst h1
  go_enter Try.func39, Try.ntmps39
  go_wp2
  go_ret
  exact ⟨ret_bool (by simp; try omega), ((Below.refl _ _).alloc (Nat.le_refl _) _).alloc (by simp) _⟩

theorem alone_any (a n via m s : Nat) (w : World) (h : via = 0 ∧ m = 0 ∧ s = 0) :
    Calls Try.prog 56 #[.agg #[.int .u32 a, .int .u8 n, .int .i64 via, .int .u16 m, .int .u16 s]] w fun e w' => e = .returned (.bool true) ∧ Below w.heap.size w w' := by
  obtain ⟨rfl, rfl, rfl⟩ := h
  go_enter Try.func56, Try.ntmps56
  go_wp2
  go_ret
  exact ⟨ret_bool (by simp), by first | exact (((Below.refl _ _).alloc (Nat.le_refl _) _).setCell (Nat.le_refl _) _).setCell (Nat.le_refl _) _ | exact (Below.refl _ _).alloc (Nat.le_refl _) _⟩

theorem eq_prefix (n : Nat) : ∃ a b c : Nat, n % 3 = a ∧ n / 3 % 2 = b ∧ n / 6 % 3 = c ∧ a < 3 ∧ b < 2 ∧ c < 3 := ⟨_, _, _, rfl, rfl, rfl, by omega, by omega, by omega⟩
set_option maxHeartbeats 1000000 in
theorem prefix_any (n : Nat) (hn : n < 256) :
    ∃ a k : Nat, a < 4294967296 ∧ k ≤ 24 ∧ Pre.right a k = true ∧ ∀ w, Calls Try.prog 10 #[.int .u8 n] w fun e w' => e = .returned (.agg #[.int .u32 a, .int .u8 k]) ∧ Below w.heap.size w w' := by
  obtain ⟨a, b, c, h1, h2, h3, ha, hb, hc⟩ := eq_prefix n
  refine ⟨Pre.top (167772160 + a * 65536 + b * 32768) (8 + c * 8), Pre.len (8 + c * 8), Pre.top_lt (by omega), by unfold Pre.len; omega, Pre.right_top _ _, fun w => ?_⟩
  have c29 := fun W => Pre.rof_any (167772160 + a * 65536 + b * 32768) (8 + c * 8) (by omega) (by omega) W
  have e1 : (n : Int) % 3 = (a : Int) := by omega
  have e2 : (n : Int) / 3 % 2 = (b : Int) := by omega
  have e3 : (n : Int) / 6 % 3 = (c : Int) := by omega
  have o1 : bits .or .u32 167772160 ((a : Int) * 65536) = ((167772160 + a * 65536 : Nat) : Int) := by
    have := u32_or_nat 167772160 (a * 65536) (by decide) (by omega)
    rw [nat_join 20 _ _ (by decide) (by omega)] at this
    simpa using this
  have o2 : bits .or .u32 (167772160 + (a : Int) * 65536) ((b : Int) * 32768) = ((167772160 + a * 65536 + b * 32768 : Nat) : Int) := by
    have := u32_or_nat (167772160 + a * 65536) (b * 32768) (by omega) (by omega)
    rw [nat_join 16 _ _ (by omega) (by omega)] at this
    simpa using this
  generalize Pre.top (167772160 + a * 65536 + b * 32768) (8 + c * 8) = X at *
  generalize Pre.len (8 + c * 8) = Y at *
  generalize 167772160 + a * 65536 + b * 32768 = Z at *
  clear h1 h2 h3
  go_enter Try.func10, Try.ntmps10
  go_wp2_with fail
  rw [show (8 : Int) + (c : Int) * 8 = ((8 + c * 8 : Nat) : Int) by omega]
  refine (c29 _).mono ?_
  rintro e w' ⟨rfl, B⟩
  have B' := ((Below.refl w.heap.size w).alloc (Nat.le_refl _) (.cells #[.int .u32 0, .int .u8 0] 33)).trans (B.mono (by simp))
  have hr : w'.heap[w.heap.size]? = some (.cells #[.int .u32 0, .int .u8 0] 33 (0, 0)) := by
    rw [B.block _ (by simp)]; exact heap_alloc_new w _
  have hc0 : w'.cell? ⟨w.heap.size, 0, none⟩ = some (.int .u32 0) := by rw [cell_of_row w' _ 0 _ 33 (0, 0) hr]; rfl
  have hc1 : w'.cell? ⟨w.heap.size, 1, none⟩ = some (.int .u8 0) := by rw [cell_of_row w' _ 1 _ 33 (0, 0) hr]; rfl
  have hf0 : w'.frozen? ⟨w.heap.size, 0, none⟩ = false := frozen_of_row w' _ 0 _ 33 hr
  have hf1 : w'.frozen? ⟨w.heap.size, 1, none⟩ = false := frozen_of_row w' _ 1 _ 33 hr
  clear B c29 e1 e2 e3 o1 o2
  go_wp2
  exact bodyPost_ret (v := .agg #[.int .u32 X, .int .u8 Y]) (by simp [results, Try.results10, go_sem, hc0, hc1]) rfl ⟨rfl, (B'.setCell (Nat.le_refl _) _).setCell (Nat.le_refl _) _⟩
end Go.Proofs.Ytcgncecjbkpmkaa.Chg
