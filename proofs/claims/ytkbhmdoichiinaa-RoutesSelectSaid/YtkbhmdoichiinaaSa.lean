/- The eighteen prefixes by numbers; what a mark's prefix reads as as a map's key. -/
import Derived.Test.YtkbhmdoichiinaaBs
import Derived.Maps.OwnSet
import Derived.DeepKeys4
namespace Go.Proofs.Ytkbhmdoichiinaa.Src
open Pre Ser
open Go.ChangeShapes Go.WideShapes Go.ChangeAt Go.RowKit
set_option maxRecDepth 8000

def pA (n : Nat) : Nat := Pre.top (167772160 + n % 3 * 65536 + n / 3 % 2 * 32768) (8 + n / 6 % 3 * 8)
def pN (n : Nat) : Nat := 8 + n / 6 % 3 * 8
def fk (n : Nat) : Nat := ((List.range 18).find? fun j => pA j == pA n && pN j == pN n).getD 0
theorem pA_lt (n : Nat) : pA n < 4294967296 := Pre.top_lt (by omega)
theorem pN_le (n : Nat) : pN n ≤ 24 := by unfold pN; omega
theorem len_pN (n : Nat) : Pre.len (pN n) = pN n := by have := pN_le n; unfold Pre.len; omega
theorem p_right (n : Nat) : Pre.right (pA n) (pN n) = true := by
  have := Pre.right_top (167772160 + n % 3 * 65536 + n / 3 % 2 * 32768) (8 + n / 6 % 3 * 8)
  have e := len_pN n
  unfold pN at e
  rw [e] at this
  exact this
theorem pA_mod (n : Nat) : pA (n % 18) = pA n := by
  have h1 : n % 18 % 3 = n % 3 := by omega
  have h2 : n % 18 / 3 % 2 = n / 3 % 2 := by omega
  have h3 : n % 18 / 6 % 3 = n / 6 % 3 := by omega
  unfold pA; rw [h1, h2, h3]
theorem pN_mod (n : Nat) : pN (n % 18) = pN n := by
  have h3 : n % 18 / 6 % 3 = n / 6 % 3 := by omega
  unfold pN; rw [h3]
theorem fk_mod (n : Nat) : fk (n % 18) = fk n := by unfold fk; rw [pA_mod, pN_mod]
theorem fk_all : ∀ n : Fin 18, fk n.1 < 18 ∧ pA (fk n.1) = pA n.1 ∧ pN (fk n.1) = pN n.1 ∧ fk (fk n.1) = fk n.1 ∧ ∀ j : Fin 18, j.1 < fk n.1 → ¬ (pA j.1 = pA n.1 ∧ pN j.1 = pN n.1) := by decide +kernel
theorem fk_same : ∀ j k : Fin 18, pA j.1 = pA k.1 → pN j.1 = pN k.1 → fk j.1 = fk k.1 := by decide +kernel
theorem fk_lt (n : Nat) : fk n < 18 := by rw [← fk_mod]; exact (fk_all ⟨n % 18, by omega⟩).1
theorem fk_A (n : Nat) : pA (fk n) = pA n := by rw [← fk_mod, ← pA_mod n]; exact (fk_all ⟨n % 18, by omega⟩).2.1
theorem fk_N (n : Nat) : pN (fk n) = pN n := by rw [← fk_mod, ← pN_mod n]; exact (fk_all ⟨n % 18, by omega⟩).2.2.1
theorem fk_fk (n : Nat) : fk (fk n) = fk n := by rw [← fk_mod n]; exact (fk_all ⟨n % 18, by omega⟩).2.2.2.1
theorem fk_first (n j : Nat) (h : j < fk n) : ¬ (pA j = pA n ∧ pN j = pN n) := by
  have hl := fk_lt n
  rw [← pA_mod n, ← pN_mod n]
  exact (fk_all ⟨n % 18, by omega⟩).2.2.2.2 ⟨j, by omega⟩ (by show j < fk (n % 18); rw [fk_mod]; exact h)
theorem fk_inj {j k : Nat} (hj : j < 18) (hk : k < 18) (e1 : fk j = j) (e2 : fk k = k) (h1 : pA j = pA k) (h2 : pN j = pN k) : j = k := by
  have := fk_same ⟨j, hj⟩ ⟨k, hk⟩ h1 h2
  rw [← e1, ← e2]; exact this

set_option maxHeartbeats 1000000 in
theorem prefix_n (n : Nat) (hn : n < 256) (w : World) :
    Calls Try.prog 17 #[.int .u8 n] w fun e w' => e = .returned (.agg #[.int .u32 (pA n : Nat), .int .u8 (pN n : Nat)]) ∧ Below w.heap.size w w' := by
  obtain ⟨a, b, c, h1, h2, h3, ha, hb, hc⟩ : ∃ a b c : Nat, n % 3 = a ∧ n / 3 % 2 = b ∧ n / 6 % 3 = c ∧ a < 3 ∧ b < 2 ∧ c < 3 := ⟨_, _, _, rfl, rfl, rfl, by omega, by omega, by omega⟩
  have c29 := fun W => Pre.rof_any (167772160 + a * 65536 + b * 32768) (8 + c * 8) (by omega) (by omega) W
  have eL := len_pN n
  unfold pN at eL ⊢
  unfold pA
  rw [h1, h2, h3]
  rw [h3] at eL
  have e1 : (n : Int) % 3 = (a : Int) := by omega
  have e2 : (n : Int) / 3 % 2 = (b : Int) := by omega
  have e3 : (n : Int) / 6 % 3 = (c : Int) := by omega
  have o1 : bits .or .u32 167772160 ((a : Int) * 65536) = ((167772160 + a * 65536 : Nat) : Int) := by
    have := u32_or_nat 167772160 (a * 65536) (by decide) (by omega)
    rw [nat_join 20 _ _ (by decide) (by omega)] at this
    simpa using this
  have o2 : bits .or .u32 (167772160 + (a : Int) * 65536) ((b : Int) * 32768) = ((167772160 + a * 65536 + b * 32768 : Nat) : Int) := by
    have := u32_or_nat (167772160 + a * 65536) (b * 32768) (by omega) (by omega)
    rw [nat_join 16 _ _ (by omega) (by omega)] at this
    simpa using this
  rw [eL] at c29
  generalize Pre.top (167772160 + a * 65536 + b * 32768) (8 + c * 8) = X at *
  generalize 167772160 + a * 65536 + b * 32768 = Z at *
  clear h1 h2 h3 eL
  go_enter Try.func17, Try.ntmps17
  go_wp2_with fail
  rw [show (8 : Int) + (c : Int) * 8 = ((8 + c * 8 : Nat) : Int) by omega]
  refine (c29 _).mono ?_
  rintro e w' ⟨rfl, B⟩
  have B' := ((Below.refl w.heap.size w).alloc (Nat.le_refl _) (.cells #[.int .u32 0, .int .u8 0] 39)).trans (B.mono (by simp))
  have hr : w'.heap[w.heap.size]? = some (.cells #[.int .u32 0, .int .u8 0] 39 (0, 0)) := by
    rw [B.block _ (by simp)]; exact heap_alloc_new w _
  have hc0 : w'.cell? ⟨w.heap.size, 0, none⟩ = some (.int .u32 0) := by rw [cell_of_row w' _ 0 _ 39 (0, 0) hr]; rfl
  have hc1 : w'.cell? ⟨w.heap.size, 1, none⟩ = some (.int .u8 0) := by rw [cell_of_row w' _ 1 _ 39 (0, 0) hr]; rfl
  have hf0 : w'.frozen? ⟨w.heap.size, 0, none⟩ = false := frozen_of_row w' _ 0 _ 39 hr
  have hf1 : w'.frozen? ⟨w.heap.size, 1, none⟩ = false := frozen_of_row w' _ 1 _ 39 hr
  clear B c29 e1 e2 e3 o1 o2
  go_wp2
  exact bodyPost_ret (v := .agg #[.int .u32 X, .int .u8 ((8 + c * 8 : Nat) : Int)]) (by simp [results, Try.results17, go_sem, hc0, hc1]) rfl ⟨rfl, (B'.setCell (Nat.le_refl _) _).setCell (Nat.le_refl _) _⟩
end Go.Proofs.Ytkbhmdoichiinaa.Src
