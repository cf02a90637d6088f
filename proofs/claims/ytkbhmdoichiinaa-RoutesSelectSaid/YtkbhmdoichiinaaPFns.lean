/- Contracts of package prefix, and of the document's own answers, that upper layers call. -/
import Derived.Test.YtkbhmdoichiinaaPMath
import Derived.Test.YtkbhmdoichiinaaRows
import Derived.Below
import Derived.WalkKit
import Derived.ProofKit
import Derived.OpenShut
import Derived.ShutString
import Derived.Lib.Hide
import Derived.Laws.BitsAllLaws
import Derived.Lib.QuietBelow
import Derived.BigQuiet
import Derived.Deep.QuietTactic
import Derived.Deep.RegionHeld3
import Derived.StillTailTactics
namespace Go.Proofs.Ytkbhmdoichiinaa.Pre
open Go.ChangeShapes Go.WideShapes Go.ChangeAt Go.RowKit
theorem ret_bool {a b : Bool} (h : a = b) : Ending.returned (.bool a) = .returned (.bool b) := by rw [h]
theorem ret_int {k : IntKind} {a b : Int} (h : a = b) : Ending.returned (.int k a) = .returned (.int k b) := by rw [h]
theorem bcell {W w1 : World} (hb : Below W.heap.size W w1) : (∀ b o, b < W.heap.size → w1.cell? ⟨b, o, none⟩ = W.cell? ⟨b, o, none⟩) ∧ (∀ b o, b < W.heap.size → w1.frozen? ⟨b, o, none⟩ = W.frozen? ⟨b, o, none⟩) :=
  ⟨fun b o h => hb.cell (p := ⟨b, o, none⟩) h, fun b o h => hb.frozen (p := ⟨b, o, none⟩) h⟩
theorem bstep {w W w1 : World} (h : Below w.heap.size w W) (hb : Below W.heap.size W w1) : Below w.heap.size w w1 := h.trans (hb.mono h.size)
/-- The mask of the first n bits. -/
def msk (n : Nat) : Nat := 4294967295 - (2 ^ rest n - 1)
theorem msk_lt (n : Nat) : msk n < 4294967296 := by unfold msk; omega
set_option linter.unusedVariables false in
theorem mask_any (n : Nat) (hn : n ≤ 255) (w : World) :
    Calls Try.prog 61 #[.int .u8 n] w fun e w' => e = .returned (.int .u32 (msk n : Nat)) ∧ w = w' := by
  go_enter Try.func61, Try.ntmps61
  go_wp2
  go_ret
  refine ⟨ret_int ?_, rfl⟩
  have h1 : ((4294967295 : Int) / 2 ^ min n 32) = ((4294967295 / 2 ^ min n 32 : Nat) : Int) := by simp
  have hp := pow_rest_le n
  have hp1 := Nat.two_pow_pos (rest n)
  rw [h1, ones_div]
  have hm : IntKind.u32.max = ((4294967295 : Nat) : Int) := by rfl
  rw [hm, u32_xor_nat _ _ (by omega) (by omega)]
  congr 1
  exact xor_ones (2 ^ rest n - 1) (by omega)
theorem mask_same (n : Nat) (hn : n ≤ 255) (w : World) :
    Calls Try.prog 61 #[.int .u8 n] w fun e w' => e = .returned (.int .u32 (msk n : Nat)) ∧ w' = w := (mask_any n hn w).mono fun _ _ ⟨a, b⟩ => ⟨a, b.symm⟩
theorem and_msk (a n : Nat) (ha : a < 4294967296) : a &&& msk n = top a n := by
  unfold msk top
  exact and_top a (rest n) ha (rest_le n)
theorem and_msk_i (a n : Nat) (ha : a < 4294967296) : bits .and .u32 (a : Int) (msk n : Nat) = ((top a n : Nat) : Int) := by
  rw [u32_and_nat a _ ha (msk_lt n), and_msk a n ha]
theorem top_len (a n : Nat) : top a (len n) = top a n := by unfold top; rw [rest_len]
theorem right_any (a n : Nat) (ha : a < 4294967296) (hn : n ≤ 255) (w : World) :
    Calls Try.prog 41 #[.agg #[.int .u32 a, .int .u8 n]] w fun e w' => e = .returned (.bool (right a n)) ∧ Below w.heap.size w w' := by
  have hand : (bits .andNot .u32 (a : Int) (msk n : Nat) == 0) = (a % 2 ^ rest n == 0) := by
    rw [u32_andNot_nat a _ ha (msk_lt n)]
    have hp := pow_rest_le n
    have hp1 := Nat.two_pow_pos (rest n)
    have e : 4294967295 - msk n = 2 ^ rest n - 1 := by unfold msk; omega
    rw [e, and_low]
    generalize a % 2 ^ rest n = x
    rw [Bool.eq_iff_iff]; simp
  by_cases h : n ≤ 32
  · have hd : decide ((n : Int) ≤ 32) = true := by simp; omega
    go_enter Try.func41, Try.ntmps41
    go_wp2
    go_quiet ((go_at_call 61; exact Calls.quiet_of_same (mask_same n hn _)))
    go_wp2
    go_ret
    exact ⟨ret_bool (by simp [right, h]), ((Below.refl _ _).alloc (Nat.le_refl _) _).trans ⟨rfl, rfl, rfl, Nat.le_refl _, fun _ _ => rfl⟩⟩
  · have hd : decide ((n : Int) ≤ 32) = false := by simp; omega
    go_enter Try.func41, Try.ntmps41
    go_wp2
    go_quiet ((go_at_call 61; exact Calls.quiet_of_same (mask_same n hn _)))
    go_wp2
    go_ret
    exact ⟨ret_bool (by simp [right, h]), ((Below.refl _ _).alloc (Nat.le_refl _) _).trans ⟨rfl, rfl, rfl, Nat.le_refl _, fun _ _ => rfl⟩⟩
theorem rbit_any (a i : Nat) (ha : a < 4294967296) (hi : i ≤ 255) (w : World) :
    Calls Try.prog 58 #[.int .u32 a, .int .i64 i] w fun e w' => e = .returned (.bool (bit a i)) ∧ w = w' := by
  go_enter Try.func58, Try.ntmps58
  go_wp2
  go_loop [0, 1] (fun x j => ∃ k : Nat, i ≤ k ∧ k ≤ max i 31 ∧ j = .int .i64 k ∧ x = .int .u32 (a / 2 ^ (k - i) : Nat)) (fun _ j => 255 - (intOf j).toNat)
  case atStart => exact ⟨i, by omega, by omega, rfl, by simp⟩
  case round =>
    obtain ⟨k, hk, hk2, rfl, rfl⟩ := hrel
    have hx : a / 2 ^ (k - i) < 4294967296 := Nat.lt_of_le_of_lt (Nat.div_le_self _ _) ha
    by_cases hlt : k < 31
    · have e : a / 2 ^ (k - i) / 2 = a / 2 ^ (k + 1 - i) := by
        rw [show k + 1 - i = k - i + 1 by omega, Nat.pow_succ, Nat.div_div_eq_div_mul]
      have E := Lib.hid e
      clear e
      generalize hy : a / 2 ^ (k - i) = y at *
      clear hy
      go_wp2
      go_round
      case rel => exact ⟨k + 1, by omega, by omega, by go_num, by rw [← E.out]; simp⟩
      case measure => simp [intOf]; omega
    · have e : (a / 2 ^ (k - i)) % 2 = a / 2 ^ (31 - i) % 2 := by
        by_cases h31 : i ≤ 31
        · rw [show k = 31 by omega]
        · rw [show k - i = 0 by omega, show 31 - i = 0 by omega]
      have E := Lib.hid e
      clear e
      generalize hy : a / 2 ^ (k - i) = y at *
      clear hy
      go_wp2
      go_ret
      refine ⟨ret_bool ?_, rfl⟩
      unfold bit
      rw [← E.out, Bool.eq_iff_iff]; simp; omega
theorem rof_core (a n L : Nat) (ha : a < 4294967296) (hL : L ≤ 32) (hn : n ≤ 255) (hnL : (n ≤ 32 ∧ n = L) ∨ (32 < n ∧ L = 32)) (w : World) :
    Calls Try.prog 37 #[.int .u32 a, .int .u8 n] w fun e w' => e = .returned (.agg #[.int .u32 (part a L 32 : Nat), .int .u8 L]) ∧ Below w.heap.size w w' := by
  rcases hnL with ⟨h, rfl⟩ | ⟨h, rfl⟩
  · go_enter Try.func37, Try.ntmps37
    go_wp2
    go_loop [5, 6] (fun o i => ∃ k : Nat, k ≤ 32 ∧ i = .int .i64 k ∧ o = .int .u32 (part a n k : Nat)) (fun _ i => 32 - (intOf i).toNat)
    case atStart => exact ⟨0, by omega, rfl, by rw [part_zero a n ha]; rfl⟩
    case round =>
      obtain ⟨k, hk, rfl, rfl⟩ := hrel
      by_cases hlt : k < 32
      · have hpl := part_lt a n k ha hlt
        by_cases hin : k < n
        · have hs := part_in a n k hlt hin
          cases hb : bit a k
          · rw [hb] at hs
            have HS := Lib.hid hs
            clear hs
            generalize part a n k = y at *
            go_wp2_with (go_at_call 58; refine (rbit_any _ k (by assumption) (by omega) _).mono ?_; rintro e w' ⟨rfl, rfl⟩)
            go_round
            case rel => exact ⟨k + 1, by omega, by go_num, by rw [HS.out]; simp; omega⟩
            case measure => simp [intOf]; omega
          · rw [hb] at hs
            have HS := Lib.hid hs
            clear hs
            generalize part a n k = y at *
            go_wp2_with (go_at_call 58; refine (rbit_any _ k (by assumption) (by omega) _).mono ?_; rintro e w' ⟨rfl, rfl⟩)
            go_round
            case rel => exact ⟨k + 1, by omega, by go_num, by rw [HS.out]; simp; omega⟩
            case measure => simp [intOf]; omega
        · have hs := part_out a n k (by omega)
          have HS := Lib.hid hs
          clear hs
          generalize part a n k = y at *
          go_wp2
          go_round
          case rel => exact ⟨k + 1, by omega, by go_num, by rw [HS.out]; simp; omega⟩
          case measure => simp [intOf]; omega
      · obtain rfl : k = 32 := by omega
        go_wp2
        exact bodyPost_ret (v := .agg #[.int .u32 (part a n 32 : Nat), .int .u8 n]) (by simp [results, Try.results37, go_sem]) rfl ⟨rfl, ((Below.refl _ _).alloc (Nat.le_refl _) _)⟩
  · have hd : decide (32 < (n : Int)) = true := by simp; omega
    go_enter Try.func37, Try.ntmps37
    go_wp2
    go_loop [5, 6] (fun o i => ∃ k : Nat, k ≤ 32 ∧ i = .int .i64 k ∧ o = .int .u32 (part a 32 k : Nat)) (fun _ i => 32 - (intOf i).toNat)
    case atStart => exact ⟨0, by omega, rfl, by rw [part_zero a 32 ha]; rfl⟩
    case round =>
      obtain ⟨k, hk, rfl, rfl⟩ := hrel
      by_cases hlt : k < 32
      · have hpl := part_lt a 32 k ha hlt
        by_cases hin : k < 32
        · have hs := part_in a 32 k hlt hin
          cases hb : bit a k
          · rw [hb] at hs
            have HS := Lib.hid hs
            clear hs
            generalize part a 32 k = y at *
            go_wp2_with (go_at_call 58; refine (rbit_any _ k (by assumption) (by omega) _).mono ?_; rintro e w' ⟨rfl, rfl⟩)
            go_round
            case rel => exact ⟨k + 1, by omega, by go_num, by rw [HS.out]; simp; omega⟩
            case measure => simp [intOf]; omega
          · rw [hb] at hs
            have HS := Lib.hid hs
            clear hs
            generalize part a 32 k = y at *
            go_wp2_with (go_at_call 58; refine (rbit_any _ k (by assumption) (by omega) _).mono ?_; rintro e w' ⟨rfl, rfl⟩)
            go_round
            case rel => exact ⟨k + 1, by omega, by go_num, by rw [HS.out]; simp; omega⟩
            case measure => simp [intOf]; omega
        · exact absurd hlt hin
      · obtain rfl : k = 32 := by omega
        go_wp2
        exact bodyPost_ret (v := .agg #[.int .u32 (part a 32 32 : Nat), .int .u8 32]) (by simp [results, Try.results37, go_sem]) rfl ⟨rfl, ((Below.refl _ _).alloc (Nat.le_refl _) _)⟩
theorem rof_any (a n : Nat) (ha : a < 4294967296) (hn : n ≤ 255) (w : World) :
    Calls Try.prog 37 #[.int .u32 a, .int .u8 n] w fun e w' => e = .returned (.agg #[.int .u32 (top a n : Nat), .int .u8 (len n : Nat)]) ∧ Below w.heap.size w w' := by
  rw [← part_end a n]
  exact rof_core a n (len n) ha (len_le n) hn (by unfold len; omega) w
end Go.Proofs.Ytkbhmdoichiinaa.Pre
