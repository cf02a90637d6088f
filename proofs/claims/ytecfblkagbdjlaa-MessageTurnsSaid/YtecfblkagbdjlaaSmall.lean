/- Contracts of package coin's small functions, and of the document's own 'bits'. -/
import Derived.Test.YtecfblkagbdjlaaShelf
import Derived.Test.YtecfblkagbdjlaaRows
import Derived.Test.YtecfblkagbdjlaaMath
import Derived.WalkKit
import Derived.ProofKit
import Derived.OpenShut
import Derived.ShutString
import Derived.WalkLawsBesides
import Derived.Lib.Hide
import Derived.Laws.BitsAllLaws
import Derived.Below
import Derived.Lib.ItoaNum
namespace Go.Proofs.Ytecfblkagbdjlaa.Coin
open Go.ChangeShapes Go.WideShapes Go.ChangeAt Go.RowKit

theorem ret_bool {a b : Bool} (h : a = b) : Ending.returned (.bool a) = .returned (.bool b) := by rw [h]
theorem ret_int {k : IntKind} {a b : Int} (h : a = b) : Ending.returned (.int k a) = .returned (.int k b) := by rw [h]

/-- How many bits a number has. -/
theorem len_lt (n : Nat) (hn : n < 18446744073709551616) (k : Nat) : Lib.bitLen n ≤ k ↔ n < 2 ^ k := by
  have hb := Lib.bitLenAux_bounds 64 n (by omega)
  have hz := Lib.bitLenAux_zero 64
  unfold Lib.bitLen
  by_cases h0 : n = 0
  · subst h0
    rw [hz]
    exact ⟨fun _ => Nat.pow_pos (by decide), fun _ => Nat.zero_le _⟩
  · obtain ⟨h1, h2, h3⟩ := hb h0
    generalize Lib.bitLenAux 64 n = L at *
    constructor
    · intro h
      exact Nat.lt_of_lt_of_le h3 (Nat.pow_le_pow_right (by decide) h)
    · intro h
      rcases Nat.lt_or_ge k L with hk | hk
      · have := Nat.pow_le_pow_right (n := 2) (by decide) (show k ≤ L - 1 by omega)
        omega
      · exact hk
theorem sz_len (n : Nat) (hn : n < 18446744073709551616) : sz n = min (max ((Lib.bitLen n + 6) / 7) 1) 9 := by
  have h := len_lt n hn
  have h1 := h 7
  have h2 := h 14
  have h3 := h 21
  have h4 := h 28
  have h5 := h 35
  have h6 := h 42
  have h7 := h 49
  have h8 := h 56
  simp only [Nat.reducePow] at h1 h2 h3 h4 h5 h6 h7 h8
  clear h
  generalize Lib.bitLen n = L at *
  unfold sz
  repeat' split
  all_goals omega
theorem len_le (n : Nat) (hn : n < 18446744073709551616) : Lib.bitLen n ≤ 64 := (len_lt n hn 64).2 (by omega)

theorem size_any (n : Nat) (hn : n < 18446744073709551616) (w : World) :
    Calls Try.prog 33 #[.int .u64 n] w fun e w' => e = .returned (.int .i64 (sz n : Nat)) ∧ w = w' := by
  have hs := sz_len n hn
  have hl := len_le n hn
  have c := Try.bits_Len64 n w (by omega) (by omega)
  simp only [Int.toNat_natCast] at c
  generalize Lib.bitLen n = L at *
  have S := Lib.hid hs
  clear hs
  go_enter Try.func33, Try.ntmps33
  go_wp2_with (go_at_call 45; refine c.mono ?_; rintro e w' ⟨rfl, rfl⟩)
  go_ret
  refine ⟨ret_int ?_, rfl⟩
  rw [S.out]
  omega
theorem ones_any (k : Nat) (hk : k ≤ 8) (w : World) :
    Calls Try.prog 34 #[.int .i64 k] w fun e w' => e = .returned (.int .u8 (ones k : Nat)) ∧ w = w' := by
  go_enter Try.func34, Try.ntmps34
  go_wp2
  go_ret
  refine ⟨ret_int ?_, rfl⟩
  rcases (by omega : k = 0 ∨ k = 1 ∨ k = 2 ∨ k = 3 ∨ k = 4 ∨ k = 5 ∨ k = 6 ∨ k = 7 ∨ k = 8) with h | h | h | h | h | h | h | h | h <;> subst h <;> decide +kernel
theorem i64_not (n : Int) (h1 : -9223372036854775808 ≤ n) (h2 : n ≤ 9223372036854775807) : bits .xor .i64 (-1) n = -n - 1 := by
  show IntKind.i64.wrap ((BitVec.ofInt 64 (-1) ^^^ BitVec.ofInt 64 n).toNat : Int) = _
  have e : (BitVec.ofInt 64 (-1)) = BitVec.allOnes 64 := by decide
  rw [e, BitVec.allOnes_xor, BitVec.toNat_not, BitVec.toNat_ofInt, IntKind.wrap_i64]
  omega
theorem wrap_u64 (n : Int) : IntKind.u64.wrap n = n % 18446744073709551616 := by simp [IntKind.wrap, IntKind.bits, IntKind.signed]
theorem len_half (m : Nat) (h0 : 0 < m) (hm : m < 18446744073709551616) : Lib.bitLen m = 1 + Lib.bitLen (m / 2) := by
  have a := len_lt m hm
  have b := len_lt (m / 2) (by omega)
  have c : ∀ k, Lib.bitLen m ≤ k + 1 ↔ Lib.bitLen (m / 2) ≤ k := fun k => by rw [a, b, Nat.pow_succ]; omega
  have h1 : 1 ≤ Lib.bitLen m := by
    rcases Nat.eq_zero_or_pos (Lib.bitLen m) with h | h
    · have := (a 0).1 (by omega)
      simp at this; omega
    · exact h
  have := (c (Lib.bitLen m - 1)).1 (by omega)
  have := (c (Lib.bitLen (m / 2))).2 (by omega)
  omega
theorem bits_any (n : Nat) (hn : n < 18446744073709551616) (w : World) :
    Calls Try.prog 27 #[.int .u64 n] w fun e w' => e = .returned (.int .i64 (Lib.bitLen n : Nat)) ∧ w = w' := by
  have hle := len_le n hn
  go_enter Try.func27, Try.ntmps27
  go_wp2
  go_loop [0, 3] (fun x j => ∃ k m : Nat, k ≤ 64 ∧ m < 18446744073709551616 ∧ j = .int .i64 k ∧ x = .int .u64 m ∧ Hid (Lib.bitLen n = k + Lib.bitLen m)) (fun x _ => (intOf x).toNat)
  case atStart => exact ⟨0, n, by omega, by omega, rfl, rfl, by simp [Hid]⟩
  case round =>
    obtain ⟨k, m, hk, hm, rfl, rfl, H⟩ := hrel
    by_cases hlt : 0 < m
    · have h := len_half m hlt hm
      have hk1 : k + 1 ≤ 64 := by have := H.out; omega
      have HL := Lib.hid h
      clear h
      go_wp2
      go_round
      case rel => exact ⟨k + 1, m / 2, hk1, by omega, by go_num, by go_num, show _ = _ by have := H.out; have := HL.out; omega⟩
      case measure => simp [intOf]; omega
    · obtain rfl : m = 0 := by omega
      go_wp2
      go_ret
      refine ⟨ret_int ?_, rfl⟩
      have := H.out
      have h0 : Lib.bitLen 0 = 0 := by decide
      omega
theorem lz8_any (b : Nat) (hb : b < 256) (w : World) :
    Calls Try.prog 52 #[.int .u8 (255 - b : Nat)] w fun e w' => e = .returned (.int .i64 (lead b - 1 : Nat)) ∧ w = w' := by
  refine (Try.bits_LeadingZeros8 (255 - b : Nat) w (by omega) (by omega)).mono ?_
  rintro e w' ⟨rfl, rfl⟩
  refine ⟨ret_int ?_, rfl⟩
  have h := (by decide +kernel : ∀ b : Fin 256, (8 - (Lib.bitLen ((255 - b.val : Nat) : Int).toNat : Int)) = ((lead b.val - 1 : Nat) : Int)) ⟨b, hb⟩
  exact h
end Go.Proofs.Ytecfblkagbdjlaa.Coin
