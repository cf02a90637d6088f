/- Contracts of the small functions of package change, and of the document's own answers. -/
import Derived.Test.YtldaggcopbnehaaCm
namespace Go.Proofs.Ytldaggcopbnehaa.Chg
open Coin
open Go.ChangeShapes Go.WideShapes Go.ChangeAt Go.RowKit

theorem bst {w W w1 : World} (h : Below w.heap.size w W) (hb : Below W.heap.size W w1) : Below w.heap.size w w1 := h.trans (hb.mono h.size)
theorem wrap_u8 (n : Nat) : IntKind.u8.wrap (n : Int) = ((n % 256 : Nat) : Int) := by rw [IntKind.wrap_u8']; omega

/-- It answers a bool. -/
def IsB (e : Ending) : Prop := ∃ x, e = .returned (.bool x)
theorem rnewer_any (a b : Int) (ha : 0 ≤ a ∧ a ≤ 65535) (hb : 0 ≤ b ∧ b ≤ 65535) (w : World) :
    Calls Try.prog 27 #[.int .u16 a, .int .u16 b] w fun e w' => IsB e ∧ w = w' := by
  go_enter Try.func27, Try.ntmps27
  go_wp2
  · go_ret
    exact ⟨⟨_, rfl⟩, rfl⟩
  · go_ret
    exact ⟨⟨_, rfl⟩, rfl⟩

theorem rnearer_any (a b c d : Int) (ha : 0 ≤ a ∧ a ≤ 65535) (hc : 0 ≤ c ∧ c ≤ 65535) (w : World) :
    Calls Try.prog 16 #[.agg #[.int .u16 a, .int .u16 b], .agg #[.int .u16 c, .int .u16 d]] w fun e w' => IsB e ∧ Below w.heap.size w w' := by
  by_cases h : a = c
  · have h' : (a == c) = true := by simp [h]
    go_enter Try.func16, Try.ntmps16
    go_wp2
    go_ret
    exact ⟨⟨_, rfl⟩, ((Below.refl _ _).alloc (Nat.le_refl _) _).alloc (by simp) _⟩
  · have h' : (a == c) = false := by simp [h]
    go_enter Try.func16, Try.ntmps16
    go_wp2_with (go_at_call 27; refine (rnewer_any a c ha hc _).mono ?_; rintro e w' ⟨⟨x, rfl⟩, rfl⟩)
    go_ret
    exact ⟨⟨_, rfl⟩, ((Below.refl _ _).alloc (Nat.le_refl _) _).alloc (by simp) _⟩

theorem eq_prefix (n : Nat) : ∃ a b c : Nat, n % 3 = a ∧ n / 3 % 2 = b ∧ n / 6 % 3 = c ∧ a < 3 ∧ b < 2 ∧ c < 3 := ⟨_, _, _, rfl, rfl, rfl, by omega, by omega, by omega⟩
set_option maxHeartbeats 1000000 in
theorem prefix_any (n : Nat) (hn : n < 256) :
    ∃ a k : Nat, a < 4294967296 ∧ k ≤ 24 ∧ Pre.right a k = true ∧ ∀ w, Calls Try.prog 9 #[.int .u8 n] w fun e w' => e = .returned (.agg #[.int .u32 a, .int .u8 k]) ∧ Below w.heap.size w w' := by
  obtain ⟨a, b, c, h1, h2, h3, ha, hb, hc⟩ := eq_prefix n
  refine ⟨Pre.top (167772160 + a * 65536 + b * 32768) (8 + c * 8), Pre.len (8 + c * 8), Pre.top_lt (by omega), by unfold Pre.len; omega, Pre.right_top _ _, fun w => ?_⟩
  have c29 := fun W => Pre.rof_any (167772160 + a * 65536 + b * 32768) (8 + c * 8) (by omega) (by omega) W
  have e1 : (n : Int) % 3 = (a : Int) := by omega
  have e2 : (n : Int) / 3 % 2 = (b : Int) := by omega
  have e3 : (n : Int) / 6 % 3 = (c : Int) := by omega
  have o1 : bits .or .u32 167772160 ((a : Int) * 65536) = ((167772160 + a * 65536 : Nat) : Int) := by
    have := u32_or_nat 167772160 (a * 65536) (by decide) (by omega)
    rw [nat_join 20 _ _ (by decide) (by omega)] at this
    simpa using this
  have o2 : bits .or .u32 (167772160 + (a : Int) * 65536) ((b : Int) * 32768) = ((167772160 + a * 65536 + b * 32768 : Nat) : Int) := by
    have := u32_or_nat (167772160 + a * 65536) (b * 32768) (by omega) (by omega)
    rw [nat_join 16 _ _ (by omega) (by omega)] at this
    simpa using this
  generalize Pre.top (167772160 + a * 65536 + b * 32768) (8 + c * 8) = X at *
  generalize Pre.len (8 + c * 8) = Y at *
  generalize 167772160 + a * 65536 + b * 32768 = Z at *
  clear h1 h2 h3
  go_enter Try.func9, Try.ntmps9
  go_wp2_with fail
  rw [show (8 : Int) + (c : Int) * 8 = ((8 + c * 8 : Nat) : Int) by omega]
  refine (c29 _).mono ?_
  rintro e w' ⟨rfl, B⟩
  have B' := ((Below.refl w.heap.size w).alloc (Nat.le_refl _) (.cells #[.int .u32 0, .int .u8 0] 34)).trans (B.mono (by simp))
  have hr : w'.heap[w.heap.size]? = some (.cells #[.int .u32 0, .int .u8 0] 34 (0, 0)) := by
    rw [B.block _ (by simp)]; exact heap_alloc_new w _
  have hc0 : w'.cell? ⟨w.heap.size, 0, none⟩ = some (.int .u32 0) := by rw [cell_of_row w' _ 0 _ 34 (0, 0) hr]; rfl
  have hc1 : w'.cell? ⟨w.heap.size, 1, none⟩ = some (.int .u8 0) := by rw [cell_of_row w' _ 1 _ 34 (0, 0) hr]; rfl
  have hf0 : w'.frozen? ⟨w.heap.size, 0, none⟩ = false := frozen_of_row w' _ 0 _ 34 hr
  have hf1 : w'.frozen? ⟨w.heap.size, 1, none⟩ = false := frozen_of_row w' _ 1 _ 34 hr
  clear B c29 e1 e2 e3 o1 o2
  go_wp2
  exact bodyPost_ret (v := .agg #[.int .u32 X, .int .u8 Y]) (by simp [results, Try.results9, go_sem, hc0, hc1]) rfl ⟨rfl, (B'.setCell (Nat.le_refl _) _).setCell (Nat.le_refl _) _⟩
end Go.Proofs.Ytldaggcopbnehaa.Chg
