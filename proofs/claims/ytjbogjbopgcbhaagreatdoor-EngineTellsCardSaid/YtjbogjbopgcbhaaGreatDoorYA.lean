/- Plain facts on the first bits of numbers below 2^32: no Go in sight. Contracts of package prefix, and of the document's own answers, that upper layers call. The serial package's contracts in table's seat: newer, nearer, best. Contracts of package prefix that a trie calls. prefix.Compare in table's seat. The eighteen prefixes by numbers; what a mark's prefix reads as as a map's key. Marks by prefixes: a map[api.Prefix]api.Mark in memory. Contracts of package source's functions. Contracts of package source's functions: what is asked, and told. Lower, First, awake. -/
import Derived.Test.YtjbogjbopgcbhaaGreatDoorRows
import Derived.Below
import Derived.WalkKit
import Derived.ProofKit
import Derived.OpenShut
import Derived.ShutString
import Derived.Lib.Hide
import Derived.Laws.BitsAllLaws
import Derived.Lib.QuietBelow
import Derived.BigQuiet
import Derived.Deep.QuietTactic
import Derived.Deep.RegionHeld3
import Derived.StillTailTactics
import Derived.Lib.ItoaNum
import Derived.WalkLawsBesides
import Derived.Maps.OwnSet
import Derived.DeepKeys4
import Derived.Deep.DeepCutAuto
import Derived.Laws.ResultCell
namespace Go.Proofs.YtjbogjbopgcbhaaGreatDoor.Pre
def rest (n : Nat) : Nat := 32 - min n 32
def top (a n : Nat) : Nat := a / 2 ^ rest n * 2 ^ rest n
def len (n : Nat) : Nat := min n 32
def bit (a i : Nat) : Bool := a / 2 ^ (31 - i) % 2 == 1
def alike (a b n : Nat) : Bool := a / 2 ^ rest n == b / 2 ^ rest n
def right (a n : Nat) : Bool := decide (n ≤ 32) && (a % 2 ^ rest n == 0)
theorem len_le (n : Nat) : len n ≤ 32 := Nat.min_le_right _ _
theorem rest_len (n : Nat) : rest (len n) = rest n := by unfold rest len; omega
theorem rest_le (n : Nat) : rest n ≤ 32 := by unfold rest; omega
theorem top_le (a n : Nat) : top a n ≤ a := Nat.div_mul_le_self _ _
theorem top_lt {a n : Nat} (h : a < 4294967296) : top a n < 4294967296 := Nat.lt_of_le_of_lt (top_le a n) h
theorem ones_div (n : Nat) : 4294967295 / 2 ^ min n 32 = 2 ^ rest n - 1 := by
  unfold rest
  have h : min n 32 ≤ 32 := Nat.min_le_right _ _
  generalize min n 32 = k at h
  exact (show ∀ k, k ≤ 32 → 4294967295 / 2 ^ k = 2 ^ (32 - k) - 1 by decide +kernel) k h
theorem pow_rest_le (n : Nat) : 2 ^ rest n ≤ 4294967296 := by
  have := Nat.pow_le_pow_right (n := 2) (by decide) (rest_le n)
  simpa using this
theorem and_low (a s : Nat) : a &&& (2 ^ s - 1) = a % 2 ^ s := Nat.and_two_pow_sub_one_eq_mod a s
theorem xor_ones (x : Nat) (hx : x < 2 ^ 32) : 4294967295 ^^^ x = 4294967295 - x := by
  apply Nat.eq_of_testBit_eq
  intro i
  rw [show (4294967295 : Nat) = 2 ^ 32 - 1 from rfl, Nat.testBit_xor, Nat.testBit_two_pow_sub_one]
  rw [show 2 ^ 32 - 1 - x = 2 ^ 32 - (x + 1) by omega, Nat.testBit_two_pow_sub_succ hx]
  by_cases h3 : i < 32
  · simp [h3]
  · have : x.testBit i = false := Nat.testBit_lt_two_pow (Nat.lt_of_lt_of_le hx (Nat.pow_le_pow_right (by decide) (by omega)))
    simp [h3, this]
theorem step_div (a i : Nat) (hi : i < 32) : a / 2 ^ (32 - (i + 1)) = 2 * (a / 2 ^ (32 - i)) + (if bit a i then 1 else 0) := by
  have e : 32 - i = 31 - i + 1 := by omega
  have e2 : 32 - (i + 1) = 31 - i := by omega
  rw [e, e2, Nat.pow_succ, ← Nat.div_div_eq_div_mul]
  unfold bit
  generalize a / 2 ^ (31 - i) = x
  by_cases h : x % 2 = 1
  · simp [h]; omega
  · simp [h]; omega
theorem top_mod (a n : Nat) : top a n % 2 ^ rest n = 0 := Nat.mul_mod_left _ _
def part (a L k : Nat) : Nat := a / 2 ^ (32 - min k L) * 2 ^ (k - min k L)
theorem part_zero (a L : Nat) (ha : a < 4294967296) : part a L 0 = 0 := by
  unfold part
  rw [Nat.zero_min, Nat.div_eq_of_lt (by simpa using ha)]
theorem part_in (a L k : Nat) (hk : k < 32) (h : k < L) : part a L (k + 1) = 2 * part a L k + (if bit a k then 1 else 0) := by
  unfold part
  rw [show min (k + 1) L = k + 1 by omega, show min k L = k by omega, step_div a k hk]; simp
theorem part_out (a L k : Nat) (h : L ≤ k) : part a L (k + 1) = 2 * part a L k := by
  unfold part
  rw [show min (k + 1) L = L by omega, show min k L = L by omega, show k + 1 - L = k - L + 1 by omega, Nat.pow_succ, ← Nat.mul_assoc, Nat.mul_comm]
theorem part_lt (a L k : Nat) (ha : a < 4294967296) (hk : k < 32) : part a L k < 2147483648 := by
  unfold part
  have h1 : a / 2 ^ (32 - min k L) < 2 ^ min k L := by
    apply Nat.div_lt_of_lt_mul
    rw [← Nat.pow_add, show 32 - min k L + min k L = 32 by omega]; simpa using ha
  calc a / 2 ^ (32 - min k L) * 2 ^ (k - min k L) < 2 ^ min k L * 2 ^ (k - min k L) := Nat.mul_lt_mul_of_pos_right h1 (Nat.two_pow_pos _)
    _ = 2 ^ k := by rw [← Nat.pow_add, show min k L + (k - min k L) = k by omega]
    _ ≤ 2 ^ 31 := Nat.pow_le_pow_right (by decide) (by omega)
    _ = 2147483648 := rfl
theorem part_end (a n : Nat) : part a (len n) 32 = top a n := by
  unfold part top rest len
  rw [show min 32 (min n 32) = min n 32 by omega]
theorem right_top (a n : Nat) : right (top a n) (len n) = true := by
  unfold right
  rw [rest_len, top_mod]; simp [len_le]
end Go.Proofs.YtjbogjbopgcbhaaGreatDoor.Pre
namespace Go.Proofs.YtjbogjbopgcbhaaGreatDoor.Pre
open Go.ChangeShapes Go.WideShapes Go.ChangeAt Go.RowKit
theorem ret_bool {a b : Bool} (h : a = b) : Ending.returned (.bool a) = .returned (.bool b) := by rw [h]
theorem ret_int {k : IntKind} {a b : Int} (h : a = b) : Ending.returned (.int k a) = .returned (.int k b) := by rw [h]
theorem bcell {W w1 : World} (hb : Below W.heap.size W w1) : (∀ b o, b < W.heap.size → w1.cell? ⟨b, o, none⟩ = W.cell? ⟨b, o, none⟩) ∧ (∀ b o, b < W.heap.size → w1.frozen? ⟨b, o, none⟩ = W.frozen? ⟨b, o, none⟩) :=
  ⟨fun b o h => hb.cell (p := ⟨b, o, none⟩) h, fun b o h => hb.frozen (p := ⟨b, o, none⟩) h⟩
def msk (n : Nat) : Nat := 4294967295 - (2 ^ rest n - 1)
theorem msk_lt (n : Nat) : msk n < 4294967296 := by unfold msk; omega
set_option linter.unusedVariables false in
theorem mask_any (n : Nat) (hn : n ≤ 255) (w : World) :
    Calls Tryz.prog 112 #[.int .u8 n] w fun e w' => e = .returned (.int .u32 (msk n : Nat)) ∧ w = w' := by
  go_enter Tryz.func112, Tryz.ntmps112
  go_wp2
  go_ret
  refine ⟨ret_int ?_, rfl⟩
  have h1 : ((4294967295 : Int) / 2 ^ min n 32) = ((4294967295 / 2 ^ min n 32 : Nat) : Int) := by simp
  have hp := pow_rest_le n
  have hp1 := Nat.two_pow_pos (rest n)
  rw [h1, ones_div]
  have hm : IntKind.u32.max = ((4294967295 : Nat) : Int) := by rfl
  rw [hm, u32_xor_nat _ _ (by omega) (by omega)]
  congr 1
  exact xor_ones (2 ^ rest n - 1) (by omega)
theorem mask_same (n : Nat) (hn : n ≤ 255) (w : World) :
    Calls Tryz.prog 112 #[.int .u8 n] w fun e w' => e = .returned (.int .u32 (msk n : Nat)) ∧ w' = w := (mask_any n hn w).mono fun _ _ ⟨a, b⟩ => ⟨a, b.symm⟩
theorem right_any (a n : Nat) (ha : a < 4294967296) (hn : n ≤ 255) (w : World) :
    Calls Tryz.prog 73 #[.agg #[.int .u32 a, .int .u8 n]] w fun e w' => e = .returned (.bool (right a n)) ∧ Below w.heap.size w w' := by
  have hand : (bits .andNot .u32 (a : Int) (msk n : Nat) == 0) = (a % 2 ^ rest n == 0) := by
    rw [u32_andNot_nat a _ ha (msk_lt n)]
    have hp := pow_rest_le n
    have hp1 := Nat.two_pow_pos (rest n)
    have e : 4294967295 - msk n = 2 ^ rest n - 1 := by unfold msk; omega
    rw [e, and_low]
    generalize a % 2 ^ rest n = x
    rw [Bool.eq_iff_iff]; simp
  by_cases h : n ≤ 32
  · have hd : decide ((n : Int) ≤ 32) = true := by simp; omega
    go_enter Tryz.func73, Tryz.ntmps73
    go_wp2
    go_quiet ((go_at_call 112; exact Calls.quiet_of_same (mask_same n hn _)))
    go_wp2
    go_ret
    exact ⟨ret_bool (by simp [right, h]), ((Below.refl _ _).alloc (Nat.le_refl _) _).trans ⟨rfl, rfl, rfl, Nat.le_refl _, fun _ _ => rfl⟩⟩
  · have hd : decide ((n : Int) ≤ 32) = false := by simp; omega
    go_enter Tryz.func73, Tryz.ntmps73
    go_wp2
    go_quiet ((go_at_call 112; exact Calls.quiet_of_same (mask_same n hn _)))
    go_wp2
    go_ret
    exact ⟨ret_bool (by simp [right, h]), ((Below.refl _ _).alloc (Nat.le_refl _) _).trans ⟨rfl, rfl, rfl, Nat.le_refl _, fun _ _ => rfl⟩⟩
theorem rbit_any (a i : Nat) (ha : a < 4294967296) (hi : i ≤ 255) (w : World) :
    Calls Tryz.prog 76 #[.int .u32 a, .int .i64 i] w fun e w' => e = .returned (.bool (bit a i)) ∧ w = w' := by
  go_enter Tryz.func76, Tryz.ntmps76
  go_wp2
  go_loop [0, 1] (fun x j => ∃ k : Nat, i ≤ k ∧ k ≤ max i 31 ∧ j = .int .i64 k ∧ x = .int .u32 (a / 2 ^ (k - i) : Nat)) (fun _ j => 255 - (intOf j).toNat)
  case atStart => exact ⟨i, by omega, by omega, rfl, by simp⟩
  case round =>
    obtain ⟨k, hk, hk2, rfl, rfl⟩ := hrel
    have hx : a / 2 ^ (k - i) < 4294967296 := Nat.lt_of_le_of_lt (Nat.div_le_self _ _) ha
    by_cases hlt : k < 31
    · have e : a / 2 ^ (k - i) / 2 = a / 2 ^ (k + 1 - i) := by
        rw [show k + 1 - i = k - i + 1 by omega, Nat.pow_succ, Nat.div_div_eq_div_mul]
      have E := Lib.hid e
      clear e
      generalize hy : a / 2 ^ (k - i) = y at *
      clear hy
      go_wp2
      go_round
      case rel => exact ⟨k + 1, by omega, by omega, by go_num, by rw [← E.out]; simp⟩
      case measure => simp [intOf]; omega
    · have e : (a / 2 ^ (k - i)) % 2 = a / 2 ^ (31 - i) % 2 := by
        by_cases h31 : i ≤ 31
        · rw [show k = 31 by omega]
        · rw [show k - i = 0 by omega, show 31 - i = 0 by omega]
      have E := Lib.hid e
      clear e
      generalize hy : a / 2 ^ (k - i) = y at *
      clear hy
      go_wp2
      go_ret
      refine ⟨ret_bool ?_, rfl⟩
      unfold bit
      rw [← E.out, Bool.eq_iff_iff]; simp; omega
theorem rof_core (a n L : Nat) (ha : a < 4294967296) (hL : L ≤ 32) (hn : n ≤ 255) (hnL : (n ≤ 32 ∧ n = L) ∨ (32 < n ∧ L = 32)) (w : World) :
    Calls Tryz.prog 55 #[.int .u32 a, .int .u8 n] w fun e w' => e = .returned (.agg #[.int .u32 (part a L 32 : Nat), .int .u8 L]) ∧ Below w.heap.size w w' := by
  rcases hnL with ⟨h, rfl⟩ | ⟨h, rfl⟩
  · go_enter Tryz.func55, Tryz.ntmps55
    go_wp2
    go_loop [5, 6] (fun o i => ∃ k : Nat, k ≤ 32 ∧ i = .int .i64 k ∧ o = .int .u32 (part a n k : Nat)) (fun _ i => 32 - (intOf i).toNat)
    case atStart => exact ⟨0, by omega, rfl, by rw [part_zero a n ha]; rfl⟩
    case round =>
      obtain ⟨k, hk, rfl, rfl⟩ := hrel
      by_cases hlt : k < 32
      · have hpl := part_lt a n k ha hlt
        by_cases hin : k < n
        · have hs := part_in a n k hlt hin
          cases hb : bit a k
          · rw [hb] at hs
            have HS := Lib.hid hs
            clear hs
            generalize part a n k = y at *
            go_wp2_with (go_at_call 76; refine (rbit_any _ k (by assumption) (by omega) _).mono ?_; rintro e w' ⟨rfl, rfl⟩)
            go_round
            case rel => exact ⟨k + 1, by omega, by go_num, by rw [HS.out]; simp; omega⟩
            case measure => simp [intOf]; omega
          · rw [hb] at hs
            have HS := Lib.hid hs
            clear hs
            generalize part a n k = y at *
            go_wp2_with (go_at_call 76; refine (rbit_any _ k (by assumption) (by omega) _).mono ?_; rintro e w' ⟨rfl, rfl⟩)
            go_round
            case rel => exact ⟨k + 1, by omega, by go_num, by rw [HS.out]; simp; omega⟩
            case measure => simp [intOf]; omega
        · have hs := part_out a n k (by omega)
          have HS := Lib.hid hs
          clear hs
          generalize part a n k = y at *
          go_wp2
          go_round
          case rel => exact ⟨k + 1, by omega, by go_num, by rw [HS.out]; simp; omega⟩
          case measure => simp [intOf]; omega
      · obtain rfl : k = 32 := by omega
        go_wp2
        exact bodyPost_ret (v := .agg #[.int .u32 (part a n 32 : Nat), .int .u8 n]) (by simp [results, Tryz.results55, go_sem]) rfl ⟨rfl, ((Below.refl _ _).alloc (Nat.le_refl _) _)⟩
  · have hd : decide (32 < (n : Int)) = true := by simp; omega
    go_enter Tryz.func55, Tryz.ntmps55
    go_wp2
    go_loop [5, 6] (fun o i => ∃ k : Nat, k ≤ 32 ∧ i = .int .i64 k ∧ o = .int .u32 (part a 32 k : Nat)) (fun _ i => 32 - (intOf i).toNat)
    case atStart => exact ⟨0, by omega, rfl, by rw [part_zero a 32 ha]; rfl⟩
    case round =>
      obtain ⟨k, hk, rfl, rfl⟩ := hrel
      by_cases hlt : k < 32
      · have hpl := part_lt a 32 k ha hlt
        by_cases hin : k < 32
        · have hs := part_in a 32 k hlt hin
          cases hb : bit a k
          · rw [hb] at hs
            have HS := Lib.hid hs
            clear hs
            generalize part a 32 k = y at *
            go_wp2_with (go_at_call 76; refine (rbit_any _ k (by assumption) (by omega) _).mono ?_; rintro e w' ⟨rfl, rfl⟩)
            go_round
            case rel => exact ⟨k + 1, by omega, by go_num, by rw [HS.out]; simp; omega⟩
            case measure => simp [intOf]; omega
          · rw [hb] at hs
            have HS := Lib.hid hs
            clear hs
            generalize part a 32 k = y at *
            go_wp2_with (go_at_call 76; refine (rbit_any _ k (by assumption) (by omega) _).mono ?_; rintro e w' ⟨rfl, rfl⟩)
            go_round
            case rel => exact ⟨k + 1, by omega, by go_num, by rw [HS.out]; simp; omega⟩
            case measure => simp [intOf]; omega
        · exact absurd hlt hin
      · obtain rfl : k = 32 := by omega
        go_wp2
        exact bodyPost_ret (v := .agg #[.int .u32 (part a 32 32 : Nat), .int .u8 32]) (by simp [results, Tryz.results55, go_sem]) rfl ⟨rfl, ((Below.refl _ _).alloc (Nat.le_refl _) _)⟩
theorem rof_any (a n : Nat) (ha : a < 4294967296) (hn : n ≤ 255) (w : World) :
    Calls Tryz.prog 55 #[.int .u32 a, .int .u8 n] w fun e w' => e = .returned (.agg #[.int .u32 (top a n : Nat), .int .u8 (len n : Nat)]) ∧ Below w.heap.size w w' := by
  rw [← part_end a n]
  exact rof_core a n (len n) ha (len_le n) hn (by unfold len; omega) w
end Go.Proofs.YtjbogjbopgcbhaaGreatDoor.Pre
namespace Go.Proofs.YtjbogjbopgcbhaaGreatDoor.Ser
open Go.ChangeShapes Go.WideShapes Go.ChangeAt Go.RowKit
set_option maxRecDepth 4000
theorem ret_bool {a b : Bool} (h : a = b) : Ending.returned (.bool a) = .returned (.bool b) := by rw [h]
theorem ret_int {k : IntKind} {a b : Int} (h : a = b) : Ending.returned (.int k a) = .returned (.int k b) := by rw [h]
def newer (a b : Int) : Bool := decide (1 ≤ (a - b) % 65536 ∧ (a - b) % 65536 ≤ 32767)
theorem newer_any (a b : Int) (w : World) :
    Calls Tryz.prog 83 #[.int .u16 a, .int .u16 b] w fun e w' => e = .returned (.bool (newer a b)) ∧ w = w' := by
  go_enter Tryz.func83, Tryz.ntmps83
  go_wp2
  · go_ret
    refine ⟨ret_bool ?_, rfl⟩
    rename_i h
    simp only [IntKind.wrap_u16] at h ⊢
    unfold newer; rw [decide_eq_decide]; omega
  · go_ret
    refine ⟨ret_bool ?_, rfl⟩
    rename_i h
    simp only [IntKind.wrap_u16] at h ⊢
    unfold newer; symm; rw [decide_eq_false_iff_not]; omega
def nearer (s m t n : Int) : Bool := newer s t || (s == t && decide (m < n))
theorem newer_self (s : Int) : newer s s = false := by
  unfold newer; rw [decide_eq_false_iff_not]; omega
theorem nearer_any (s m t n : Int) (w : World) :
    Calls Tryz.prog 151 #[.agg #[.int .u16 s, .int .u16 m], .agg #[.int .u16 t, .int .u16 n]] w fun e w' => e = .returned (.bool (nearer s m t n)) ∧ Below w.heap.size w w' := by
  cases h : newer s t
  · by_cases hs : s = t
    · subst hs
      have hb : (s == s) = true := by simp
      go_enter Tryz.func151, Tryz.ntmps151
      go_wp2_with (go_at_call 83; refine (newer_any _ _ _).mono ?_; rintro e w' ⟨rfl, rfl⟩)
      go_ret
      exact ⟨ret_bool (by simp [nearer, newer_self]), ((Below.refl _ _).alloc (Nat.le_refl _) _).alloc (by simp) _⟩
    · have hb : (s == t) = false := by simpa using hs
      go_enter Tryz.func151, Tryz.ntmps151
      go_wp2_with (go_at_call 83; refine (newer_any _ _ _).mono ?_; rintro e w' ⟨rfl, rfl⟩)
      go_ret
      exact ⟨ret_bool (by simp [nearer, h, hb]), ((Below.refl _ _).alloc (Nat.le_refl _) _).alloc (by simp) _⟩
  · go_enter Tryz.func151, Tryz.ntmps151
    go_wp2_with (go_at_call 83; refine (newer_any _ _ _).mono ?_; rintro e w' ⟨rfl, rfl⟩)
    go_ret
    exact ⟨ret_bool (by simp [nearer, h]), ((Below.refl _ _).alloc (Nat.le_refl _) _).alloc (by simp) _⟩
theorem bcell {W w1 : World} (hb : Below W.heap.size W w1) : (∀ b o, b < W.heap.size → w1.cell? ⟨b, o, none⟩ = W.cell? ⟨b, o, none⟩) ∧ (∀ b o, b < W.heap.size → w1.frozen? ⟨b, o, none⟩ = W.frozen? ⟨b, o, none⟩) :=
  ⟨fun b o h => hb.cell (p := ⟨b, o, none⟩) h, fun b o h => hb.frozen (p := ⟨b, o, none⟩) h⟩
theorem best_yes (s m t n : Int) (h : nearer t n s m = true) (w : World) :
    Calls Tryz.prog 128 #[.agg #[.int .u16 s, .int .u16 m], .agg #[.int .u16 t, .int .u16 n]] w fun e w' => e = .returned (.agg #[.int .u16 t, .int .u16 n]) ∧ Below w.heap.size w w' := by
  go_enter Tryz.func128, Tryz.ntmps128
  go_wp2_with (go_at_call 151; refine (nearer_any _ _ _ _ _).mono ?_; rintro e w1 ⟨rfl, hb⟩; obtain ⟨hc, hf⟩ := bcell hb; have hz : w.heap.size + 1 + 1 < w1.heap.size := by have := hb.size; simp at this; omega)
  exact bodyPost_ret (v := .agg #[.int .u16 t, .int .u16 n]) (by simp [results, go_sem, hc]) rfl
    ⟨rfl, (((((Below.refl _ _).alloc (Nat.le_refl _) _).alloc (by simp) _).alloc (by simp; omega) _).trans (hb.mono (by simp; omega))).setCell (by simp; omega) _ |>.setCell (by simp; omega) _⟩
theorem best_no (s m t n : Int) (h : nearer t n s m = false) (w : World) :
    Calls Tryz.prog 128 #[.agg #[.int .u16 s, .int .u16 m], .agg #[.int .u16 t, .int .u16 n]] w fun e w' => e = .returned (.agg #[.int .u16 s, .int .u16 m]) ∧ Below w.heap.size w w' := by
  go_enter Tryz.func128, Tryz.ntmps128
  go_wp2_with (go_at_call 151; refine (nearer_any _ _ _ _ _).mono ?_; rintro e w1 ⟨rfl, hb⟩; obtain ⟨hc, hf⟩ := bcell hb; have hz : w.heap.size + 1 + 1 < w1.heap.size := by have := hb.size; simp at this; omega)
  exact bodyPost_ret (v := .agg #[.int .u16 s, .int .u16 m]) (by simp [results, go_sem, hc]) rfl
    ⟨rfl, (((((Below.refl _ _).alloc (Nat.le_refl _) _).alloc (by simp) _).alloc (by simp; omega) _).trans (hb.mono (by simp; omega))).setCell (by simp; omega) _ |>.setCell (by simp; omega) _⟩
def best (s m t n : Int) : Value := if nearer t n s m then .agg #[.int .u16 t, .int .u16 n] else .agg #[.int .u16 s, .int .u16 m]
end Go.Proofs.YtjbogjbopgcbhaaGreatDoor.Ser
namespace Go.Proofs.YtjbogjbopgcbhaaGreatDoor.Pre
open Go.ChangeShapes Go.WideShapes Go.ChangeAt Go.RowKit
def within (p m q n : Nat) : Bool := decide (n ≤ m) && alike q p n
end Go.Proofs.YtjbogjbopgcbhaaGreatDoor.Pre
namespace Go.Proofs.YtjbogjbopgcbhaaGreatDoor.Pre
open Go.ChangeShapes Go.WideShapes Go.ChangeAt Go.RowKit
set_option maxRecDepth 4000
def cmpV (x y : Nat) : Int := if x < y then -1 else if y < x then 1 else 0
theorem cmp32_any (x y : Nat) (w : World) : Calls Tryz.prog 97 #[.int .u32 x, .int .u32 y] w fun e w' => e = .returned (.int .i64 (cmpV x y)) ∧ w = w' := by
  rcases Nat.lt_trichotomy x y with h | h | h
  · go_enter Tryz.func97, Tryz.ntmps97
    go_wp2
    go_ret
    exact ⟨ret_int (by simp [cmpV, h]), rfl⟩
  · subst h
    go_enter Tryz.func97, Tryz.ntmps97
    go_wp2
    go_ret
    exact ⟨ret_int (by simp [cmpV]), rfl⟩
  · have h2 : ¬ x < y := by omega
    go_enter Tryz.func97, Tryz.ntmps97
    go_wp2
    go_ret
    exact ⟨ret_int (by simp [cmpV, h, h2]), rfl⟩
theorem cmp8_any (x y : Nat) (w : World) : Calls Tryz.prog 98 #[.int .u8 x, .int .u8 y] w fun e w' => e = .returned (.int .i64 (cmpV x y)) ∧ w = w' := by
  rcases Nat.lt_trichotomy x y with h | h | h
  · go_enter Tryz.func98, Tryz.ntmps98
    go_wp2
    go_ret
    exact ⟨ret_int (by simp [cmpV, h]), rfl⟩
  · subst h
    go_enter Tryz.func98, Tryz.ntmps98
    go_wp2
    go_ret
    exact ⟨ret_int (by simp [cmpV]), rfl⟩
  · have h2 : ¬ x < y := by omega
    go_enter Tryz.func98, Tryz.ntmps98
    go_wp2
    go_ret
    exact ⟨ret_int (by simp [cmpV, h, h2]), rfl⟩
def orV (x y : Int) : Int := if x = 0 then y else x
theorem or_any (x y : Int) (b : Nat) (w : World) (h0 : w.cell? ⟨b, 0, none⟩ = some (.int .i64 x)) (h1 : w.cell? ⟨b, 1, none⟩ = some (.int .i64 y)) :
    Calls Tryz.prog 96 #[.slice (some ⟨b, 0, none⟩) 2 2] w fun e w' => e = .returned (.int .i64 (orV x y)) ∧ w = w' := by
  by_cases hx : x = 0
  · subst hx
    by_cases hy : y = 0
    · subst hy
      go_enter Tryz.func96, Tryz.ntmps96
      go_wp2
      refine wp_loop_rounds 3 ?_
      repeat (rw [rounds_succ]; go_wp2)
      go_ret
      exact ⟨ret_int (by simp [orV]), rfl⟩
    · have hb : (y != 0) = true := by simpa using hy
      go_enter Tryz.func96, Tryz.ntmps96
      go_wp2
      refine wp_loop_rounds 3 ?_
      repeat (rw [rounds_succ]; go_wp2)
      go_ret
      exact ⟨ret_int (by simp [orV]), rfl⟩
  · have hb : (x != 0) = true := by simpa using hx
    go_enter Tryz.func96, Tryz.ntmps96
    go_wp2
    refine wp_loop_rounds 3 ?_
    repeat (rw [rounds_succ]; go_wp2)
    go_ret
    exact ⟨ret_int (by simp [orV, hx]), rfl⟩
def cmpP (p m q n : Nat) : Int := orV (cmpV p q) (cmpV m n)
theorem compare_any (p m q n : Nat) (w : World) :
    Calls Tryz.prog 50 #[.agg #[.int .u32 p, .int .u8 m], .agg #[.int .u32 q, .int .u8 n]] w fun e w' => e = .returned (.int .i64 (cmpP p m q n)) ∧ Below w.heap.size w w' := by
  go_enter Tryz.func50, Tryz.ntmps50
  go_wp2
  go_region_held3 (fun x => x.cell? ⟨w.heap.size, 0, none⟩ = some (.int .u32 p) ∧ x.cell? ⟨w.heap.size, 1, none⟩ = some (.int .u8 m) ∧ x.cell? ⟨w.heap.size + 1, 0, none⟩ = some (.int .u32 q) ∧ x.cell? ⟨w.heap.size + 1, 1, none⟩ = some (.int .u8 n) ∧ (w.heap.size + 1 < x.heap.size ∧ Below w.heap.size w x))
    ((repeat' apply And.intro) <;> first | exact (((Below.refl _ _).alloc (Nat.le_refl _) _).alloc (by simp) _).drew | exact ((((Below.refl _ _).alloc (Nat.le_refl _) _).alloc (by simp) _).alloc (by simp; omega) _).drew | assumption | exact Below.alloc (by assumption) (by simp; omega) _ | go_keep | (simp; omega))
    (first
    | (go_at_call 97; refine (cmp32_any p q _).mono ?_; rintro e w' ⟨rfl, rfl⟩)
    | (go_at_call 98; refine (cmp8_any m n _).mono ?_; rintro e w' ⟨rfl, rfl⟩)
    | (go_at_call 96; refine (or_any (cmpV p q) (cmpV m n) _ _ (by simp [go_sem]) (by simp [go_sem])).mono ?_; rintro e w' ⟨rfl, rfl⟩))
  all_goals (go_wp2; go_ret; exact ⟨rfl, ((((Below.refl _ _).alloc (Nat.le_refl _) _).alloc (by simp) _).alloc (by simp; omega) _).drew⟩)
end Go.Proofs.YtjbogjbopgcbhaaGreatDoor.Pre
namespace Go.Proofs.YtjbogjbopgcbhaaGreatDoor.Src
open Pre Ser
open Go.ChangeShapes Go.WideShapes Go.ChangeAt Go.RowKit
set_option maxRecDepth 8000
def pA (n : Nat) : Nat := Pre.top (167772160 + n % 3 * 65536 + n / 3 % 2 * 32768) (8 + n / 6 % 3 * 8)
def pN (n : Nat) : Nat := 8 + n / 6 % 3 * 8
theorem pA_lt (n : Nat) : pA n < 4294967296 := Pre.top_lt (by omega)
theorem pN_le (n : Nat) : pN n ≤ 24 := by unfold pN; omega
theorem len_pN (n : Nat) : Pre.len (pN n) = pN n := by have := pN_le n; unfold Pre.len; omega
theorem p_right (n : Nat) : Pre.right (pA n) (pN n) = true := by
  have := Pre.right_top (167772160 + n % 3 * 65536 + n / 3 % 2 * 32768) (8 + n / 6 % 3 * 8)
  have e := len_pN n
  unfold pN at e
  rw [e] at this
  exact this
set_option maxHeartbeats 1000000 in
theorem prefix_n (n : Nat) (hn : n < 256) (w : World) :
    Calls Tryz.prog 19 #[.int .u8 n] w fun e w' => e = .returned (.agg #[.int .u32 (pA n : Nat), .int .u8 (pN n : Nat)]) ∧ Below w.heap.size w w' := by
  obtain ⟨a, b, c, h1, h2, h3, ha, hb, hc⟩ : ∃ a b c : Nat, n % 3 = a ∧ n / 3 % 2 = b ∧ n / 6 % 3 = c ∧ a < 3 ∧ b < 2 ∧ c < 3 := ⟨_, _, _, rfl, rfl, rfl, by omega, by omega, by omega⟩
  have c29 := fun W => Pre.rof_any (167772160 + a * 65536 + b * 32768) (8 + c * 8) (by omega) (by omega) W
  have eL := len_pN n
  unfold pN at eL ⊢
  unfold pA
  rw [h1, h2, h3]
  rw [h3] at eL
  have e1 : (n : Int) % 3 = (a : Int) := by omega
  have e2 : (n : Int) / 3 % 2 = (b : Int) := by omega
  have e3 : (n : Int) / 6 % 3 = (c : Int) := by omega
  have o1 : bits .or .u32 167772160 ((a : Int) * 65536) = ((167772160 + a * 65536 : Nat) : Int) := by
    have := u32_or_nat 167772160 (a * 65536) (by decide) (by omega)
    rw [nat_join 20 _ _ (by decide) (by omega)] at this
    simpa using this
  have o2 : bits .or .u32 (167772160 + (a : Int) * 65536) ((b : Int) * 32768) = ((167772160 + a * 65536 + b * 32768 : Nat) : Int) := by
    have := u32_or_nat (167772160 + a * 65536) (b * 32768) (by omega) (by omega)
    rw [nat_join 16 _ _ (by omega) (by omega)] at this
    simpa using this
  rw [eL] at c29
  generalize Pre.top (167772160 + a * 65536 + b * 32768) (8 + c * 8) = X at *
  generalize 167772160 + a * 65536 + b * 32768 = Z at *
  clear h1 h2 h3 eL
  go_enter Tryz.func19, Tryz.ntmps19
  go_wp2_with fail
  rw [show (8 : Int) + (c : Int) * 8 = ((8 + c * 8 : Nat) : Int) by omega]
  refine (c29 _).mono ?_
  rintro e w' ⟨rfl, B⟩
  have B' := ((Below.refl w.heap.size w).alloc (Nat.le_refl _) (.cells #[.int .u32 0, .int .u8 0] 30)).trans (B.mono (by simp))
  have hr : w'.heap[w.heap.size]? = some (.cells #[.int .u32 0, .int .u8 0] 30 (0, 0)) := by
    rw [B.block _ (by simp)]; exact heap_alloc_new w _
  have hc0 : w'.cell? ⟨w.heap.size, 0, none⟩ = some (.int .u32 0) := by rw [cell_of_row w' _ 0 _ 30 (0, 0) hr]; rfl
  have hc1 : w'.cell? ⟨w.heap.size, 1, none⟩ = some (.int .u8 0) := by rw [cell_of_row w' _ 1 _ 30 (0, 0) hr]; rfl
  have hf0 : w'.frozen? ⟨w.heap.size, 0, none⟩ = false := frozen_of_row w' _ 0 _ 30 hr
  have hf1 : w'.frozen? ⟨w.heap.size, 1, none⟩ = false := frozen_of_row w' _ 1 _ 30 hr
  clear B c29 e1 e2 e3 o1 o2
  go_wp2
  exact bodyPost_ret (v := .agg #[.int .u32 X, .int .u8 ((8 + c * 8 : Nat) : Int)]) (by simp [results, Tryz.results19, go_sem, hc0, hc1]) rfl ⟨rfl, (B'.setCell (Nat.le_refl _) _).setCell (Nat.le_refl _) _⟩
end Go.Proofs.YtjbogjbopgcbhaaGreatDoor.Src
namespace Go.Proofs.YtjbogjbopgcbhaaGreatDoor.Src
open Pre Ser
open Go.ChangeShapes Go.WideShapes Go.ChangeAt Go.RowKit
set_option maxRecDepth 8000
abbrev Mk := Nat → Nat → Option (Nat × Nat)
def Mk.put (f : Mk) (a n : Nat) (m : Nat × Nat) : Mk := fun b k => if b = a ∧ k = n then some m else f b k
theorem laidOut : laidOutB Tryz.prog = true := by kernel_rfl
theorem cells34 : Tryz.prog.cellsOf 30 = 2 := by kernel_rfl
theorem row34 : (30 : TypeId) < Tryz.prog.types.size := of_decide_eq_true (by kernel_rfl)
theorem wide34 : (match Tryz.prog.underlying 30 with | some (.array _ _) | some (.struct _) => true | _ => false) = true := by rw [Tryz.underlying30]
theorem law34 : WideMaps.KeyLaw Tryz.prog 30 := deep_law_laid laidOut (m := 2) (by omega) row34 (by kernel_rfl) wide34
theorem keyed34 : Maps.Keyed Tryz.prog 30 := .of_law law34
def pv (a n : Nat) : Value := .agg #[.int .u32 (a : Int), .int .u8 (n : Int)]
def mv (m : Nat × Nat) : Value := .agg #[.int .u16 (m.1 : Int), .int .u16 (m.2 : Int)]
def keyL (a n : Nat) : Lit := .string (keyBytes [.int .u32 (a : Int), .int .u8 (n : Int)])
theorem wf_iff {k : IntKind} {n : Int} : (Lit.int k n).wf = true ↔ k.min ≤ n ∧ n ≤ k.max := by
  show (decide _ && decide _) = true ↔ _
  rw [Bool.and_eq_true, decide_eq_true_iff, decide_eq_true_iff]
theorem wf_u32 (a : Nat) (ha : a < 4294967296) : (Lit.int .u32 (a : Int)).wf = true := wf_iff.2 ⟨by show (0 : Int) ≤ _; omega, by show _ ≤ (4294967295 : Int); omega⟩
theorem wf_u8 (a : Nat) (ha : a < 256) : (Lit.int .u8 (a : Int)).wf = true := wf_iff.2 ⟨by show (0 : Int) ≤ _; omega, by show _ ≤ (255 : Int); omega⟩
theorem lits_int {P : Program} {d : Nat} {t : TypeId} {q : IntKind} {n : Int} (ht : P.underlying t = some (.int q)) (hw : (Lit.int q n).wf = true) : P.keyLits (d + 1) t [.int q n] = some [.int q n] := by
  unfold Program.keyLits
  rw [ht]
  simp [hw]
theorem key34 (a n : Nat) (ha : a < 4294967296) (hn : n < 256) : keyOf Tryz.prog 30 (pv a n) = some (keyL a n) := by
  have hk : Tryz.prog.keyType 30 = true := by kernel_rfl
  have hf : (pv a n).formed Tryz.prog 30 = true := by simp [pv, Value.formed, Tryz.underlying30, cells34]
  obtain ⟨N, hN⟩ : ∃ N, Tryz.prog.types.size = N + 1 := ⟨Tryz.prog.types.size - 1, (Nat.succ_pred_eq_of_pos (Nat.lt_of_le_of_lt (Nat.zero_le _) row34)).symm⟩
  have c32 : Tryz.prog.cellsOf 28 = 1 := by kernel_rfl
  have c5 : Tryz.prog.cellsOf 5 = 1 := by kernel_rfl
  have hl : Tryz.prog.keyLits (Tryz.prog.types.size + 1) 30 (pv a n).cells.toList = some [.int .u32 (a : Int), .int .u8 (n : Int)] := by
    rw [hN]
    unfold Program.keyLits
    rw [Tryz.underlying30]
    simp [pv, Value.cells, cells34, c32, c5, lits_int Tryz.underlying28 (wf_u32 a ha), lits_int Tryz.underlying5 (wf_u8 n hn)]
  unfold keyOf
  rw [Tryz.underlying30]
  simp only [hk, hf, Bool.and_self, if_true, hl, Option.map_some]
  rfl
theorem keyL_inj {a n b k : Nat} (ha : a < 4294967296) (hn : n < 256) (hb : b < 4294967296) (hk : k < 256) (h : keyL a n = keyL b k) : a = b ∧ n = k := by
  have e := keyed34.inj (key34 a n ha hn) (h ▸ key34 b k hb hk)
  unfold pv at e
  injection e with e
  simp only [Array.mk.injEq, List.cons.injEq, Value.int.injEq, true_and, and_true] at e
  omega
variable {H : Type}
def markR : Value → Option (DataW H × List MemPlace)
  | .agg ⟨[.int .u16 s, .int .u16 m]⟩ => some (.agg [.lit (.int .u16 s), .lit (.int .u16 m)], [])
  | _ => none
def mD (m : Nat × Nat) : DataW H := .agg [.lit (.int .u16 (m.1 : Int)), .lit (.int .u16 (m.2 : Int))]
theorem markR_mk (m : Nat × Nat) : markR (H := H) (mv m) = some (mD m, []) := rfl
theorem markR_inv {v : Value} {ps : List MemPlace} {m : Nat × Nat} (h : markR (H := H) v = some (mD m, ps)) : v = mv m := by
  unfold markR at h
  split at h
  · injection h with h
    injection h with h1 h2
    unfold mD at h1
    injection h1 with h1
    simp only [List.cons.injEq, DataW.lit.injEq, Lit.int.injEq, true_and, and_true] at h1
    obtain ⟨rfl, rfl⟩ := h1
    rfl
  · cases h
def MapAt (w : World) (b : Nat) (f : Mk) (c : Nat) : Prop := ∃ D : DataW Unit, w.ownsMap Tryz.prog 30 markR b c D ∧ Maps.size D = c ∧ ∀ a n, a < 4294967296 → n < 256 → Maps.has D (keyL a n) = (f a n).isSome ∧ ∀ m, f a n = some m → ∀ z, D.atKey (keyL a n) z = mD m
theorem own_size {w : World} {b n : Nat} {D : DataW Unit} (h : w.ownsMap Tryz.prog 30 markR b n D) : w.ownsMap Tryz.prog 30 markR b (Maps.size D) D := by
  obtain ⟨es, clock, hb, F, hs, rfl⟩ := h
  exact ⟨es, clock, hb, F, by simp [Maps.size, length_sorted], rfl⟩
theorem MapAt.kept {w w' : World} {b c : Nat} {f : Mk} {row : Option Nat} (h : MapAt w b f c) (hg : w.grownBy w' row) (hne : some b ≠ row) : MapAt w' b f c := by
  obtain ⟨D, h1, h2⟩ := h; exact ⟨D, h1.kept hg hne, h2⟩
theorem MapAt.lt {w : World} {b c : Nat} {f : Mk} (h : MapAt w b f c) : b < w.heap.size := by obtain ⟨D, h1, _⟩ := h; exact h1.lt
theorem MapAt.made (w : World) : MapAt (w.alloc (.map #[] 0)) w.heap.size (fun _ _ => none) 0 :=
  ⟨_, World.ownsMap_made w Tryz.prog 30 markR, rfl, fun a n _ _ => ⟨rfl, fun m h => by cases h⟩⟩
theorem MapAt.isMap {w : World} {b c : Nat} {f : Mk} (h : MapAt w b f c) : ∃ es clock, w.heap[b]? = some (.map es clock) := by
  obtain ⟨D, ⟨es, clock, hb, _⟩, _⟩ := h; exact ⟨es, clock, hb⟩
def lookV (x : Option (Nat × Nat)) : Value := mv (x.getD (0, 0))
theorem zero28 (w : World) : (zeroValue 48).run Tryz.prog w = .ok (mv (0, 0)) w := by kernel_rfl
theorem MapAt.look {w : World} {b c : Nat} {f : Mk} (h : MapAt w b f c) {a n : Nat} (ha : a < 4294967296) (hn : n < 256) :
    (Instr.lookup 165 (.map (some b)) (pv a n) true).run Tryz.prog w = .ok (.tuple #[lookV (f a n), .bool (f a n).isSome]) w := by
  obtain ⟨D, h1, h2, h3⟩ := h
  obtain ⟨v, ps, hr, hv⟩ := h1.look_ok keyed34 Tryz.underlying165 (zero28 w) (zd := mD (0, 0)) (zp := []) (markR_mk (0, 0)) (key34 a n ha hn)
  obtain ⟨e1, e2⟩ := h3 a n ha hn
  rw [hr, e1]
  cases hf : f a n with
  | none =>
    rw [hf] at e1
    rw [Maps.atKey_of_not_has e1] at hv
    rw [markR_inv hv]; rfl
  | some m =>
    rw [e2 m hf] at hv
    rw [markR_inv hv]; rfl
theorem look_nil (w : World) {a n : Nat} (ha : a < 4294967296) (hn : n < 256) :
    (Instr.lookup 165 (.map none) (pv a n) true).run Tryz.prog w = .ok (.tuple #[mv (0, 0), .bool false]) w :=
  Maps.look_nil true keyed34 Tryz.underlying165 (zero28 w) (key34 a n ha hn)
theorem keyL_is (a n : Nat) (ha : a < 4294967296) (hn : n < 256) : WideAt.IsKeyLit (keyL a n) := keyed34.key (key34 a n ha hn)
theorem MapAt.put {w : World} {b c : Nat} {f : Mk} (h : MapAt w b f c) {a n : Nat} (ha : a < 4294967296) (hn : n < 256) (hc : c < 100000) (m : Nat × Nat) :
    ∃ w', (Instr.mapUpdate 165 (.map (some b)) (pv a n) (mv m)).run Tryz.prog w = .ok () w' ∧ MapAt w' b (f.put a n m) (if (f a n).isSome then c else c + 1) ∧ w.grownBy w' (some b) := by
  obtain ⟨D, h1, h2, h3⟩ := h
  obtain ⟨w', hr, ho, hg⟩ := h1.update keyed34 Tryz.underlying165 (by unfold maxLen; omega) (key34 a n ha hn) (markR_mk m)
  have hs : Maps.size (D.put (keyL a n) (mD m)) = if (f a n).isSome then c else c + 1 := by rw [Maps.size_put (h1.tidy keyed34), (h3 a n ha hn).1, h2]
  refine ⟨w', hr, ⟨_, hs ▸ own_size ho, hs, fun b k hb hk => ?_⟩, hg⟩
  unfold Mk.put
  by_cases e : b = a ∧ k = n
  · obtain ⟨rfl, rfl⟩ := e
    rw [if_pos ⟨rfl, rfl⟩, Maps.has_put_same h1.isMap (keyL_is _ _ ha hn)]
    exact ⟨rfl, fun m' hm z => by rw [Maps.atKey_put_same h1.isMap (keyL_is _ _ ha hn)]; cases hm; rfl⟩
  · have hne : keyL b k ≠ keyL a n := fun e' => e (keyL_inj hb hk ha hn e')
    rw [if_neg e, Maps.has_put_other hne]
    exact ⟨(h3 b k hb hk).1, fun m' hm z => by rw [Maps.atKey_put_other hne]; exact (h3 b k hb hk).2 m' hm z⟩
theorem MapAt.len {w : World} {b c : Nat} {f : Mk} (h : MapAt w b f c) (ty : TypeId) : (Builtin.len_ #[165] ty #[.map (some b)]).run Tryz.prog w = .ok (.int .i64 c) w := by
  obtain ⟨D, h1, h2, -⟩ := h
  rw [← h2]; exact h1.len Tryz.underlying165 ty
def MV (lo : Nat) (w : World) (v : Value) (f : Mk) (c : Nat) : Prop := (v = .map none ∧ f = (fun _ _ => none) ∧ c = 0) ∨ ∃ b, v = .map (some b) ∧ lo ≤ b ∧ MapAt w b f c
def SrcAt (lo : Nat) (w : World) (q : Nat) (f : Mk) (c : Nat) : Prop := lo ≤ q ∧ ∃ v, w.heap[q]? = some (.cells #[v] 167 (0, 0)) ∧ MV lo w v f c
structure K (lo : Nat) (w w' : World) : Prop where
  below : Below lo w w'
  cells : ∀ (i : Nat) (x : Array Value) (t : TypeId) (fr : Nat × Nat), w.heap[i]? = some (Obj.cells x t fr) → t ≠ 167 → w'.heap[i]? = some (Obj.cells x t fr)
theorem K.refl (lo : Nat) (w : World) : K lo w w := ⟨Below.refl _ _, fun _ _ _ _ h _ => h⟩
theorem K.trans {lo : Nat} {a b c : World} (h : K lo a b) (h' : K lo b c) : K lo a c := ⟨h.below.trans h'.below, fun i x t fr e ht => h'.cells i x t fr (h.cells i x t fr e ht) ht⟩
theorem K.of {lo : Nat} {w w' : World} (h : Below w.heap.size w w') (hl : lo ≤ w.heap.size) : K lo w w' := ⟨h.mono hl, fun i _ _ _ e _ => (h.block i (Array.getElem?_eq_some_iff.1 e).1).trans e⟩
theorem K.mono {lo lo' : Nat} {w w' : World} (h : K lo w w') (hl : lo' ≤ lo) : K lo' w w' := ⟨h.below.mono hl, h.cells⟩
theorem below_grown {w w1 w2 : World} {B q : Nat} (h : Below B w w1) (hB : B ≤ w.heap.size) (g : w1.grownBy w2 (some q)) (hq : B ≤ q) : Below B w w2 :=
  ⟨g.os.trans h.os, g.tape.trans h.tape, g.output.trans h.output, Nat.le_trans h.size g.size, fun k hk => (g.block k (Nat.lt_of_lt_of_le hk (Nat.le_trans hB h.size)) (by intro e; injection e; omega)).trans (h.block k hk)⟩
theorem MV.kept {lo : Nat} {w w' : World} {v : Value} {f : Mk} {c : Nat} {row : Option Nat} (h : MV lo w v f c) (hg : w.grownBy w' row) (hr : ∀ i, row = some i → ∃ x t fr, w.heap[i]? = some (.cells x t fr)) : MV lo w' v f c := by
  rcases h with h | ⟨b, h1, h2, h3⟩
  · exact Or.inl h
  · refine Or.inr ⟨b, h1, h2, h3.kept hg fun e => ?_⟩
    obtain ⟨x, t, fr, e1⟩ := hr b e.symm
    obtain ⟨es, cl, e2⟩ := h3.isMap
    rw [e1] at e2; cases e2
theorem grown_below {w w' : World} (h : Below w.heap.size w w') : w.grownBy w' none := ⟨h.os, h.tape, h.output, h.size, fun k hk _ => h.block k hk⟩
theorem MV.below {lo : Nat} {w w' : World} {v : Value} {f : Mk} {c : Nat} (h : MV lo w v f c) (hb : Below w.heap.size w w') : MV lo w' v f c := h.kept (grown_below hb) (fun _ e => by cases e)
theorem SrcAt.lt {lo : Nat} {w : World} {q : Nat} {f : Mk} {c : Nat} (h : SrcAt lo w q f c) : q < w.heap.size := by obtain ⟨-, v, h, -⟩ := h; exact (Array.getElem?_eq_some_iff.1 h).1
theorem SrcAt.below {lo : Nat} {w w' : World} {q : Nat} {f : Mk} {c : Nat} (h : SrcAt lo w q f c) (hb : Below w.heap.size w w') : SrcAt lo w' q f c := by
  have hq := h.lt
  obtain ⟨hl, v, hr, hv⟩ := h
  exact ⟨hl, v, (hb.block _ hq).trans hr, hv.below hb⟩
theorem SrcAt.kept {lo : Nat} {w w' : World} {q : Nat} {f : Mk} {c i : Nat} (h : SrcAt lo w q f c) (hg : w.grownBy w' (some i)) {x : Array Value} {t : TypeId} {fr : Nat × Nat} (hi : w.heap[i]? = some (.cells x t fr)) (ht : t ≠ 167) : SrcAt lo w' q f c := by
  have hq := h.lt
  obtain ⟨hl, v, hr, hv⟩ := h
  refine ⟨hl, v, (hg.block _ hq ?_).trans hr, hv.kept hg fun i' e => ?_⟩
  · intro e; injection e with e; subst e
    rw [hr] at hi; injection hi with hi; injection hi with _ h2 _; exact ht h2.symm
  · injection e with e; subst e; exact ⟨x, t, fr, hi⟩
def Mk.best (f : Mk) (a n : Nat) (m : Nat × Nat) : Nat × Nat := match f a n with | none => m | some x => if nearer m.1 m.2 x.1 x.2 then m else x
def Mk.feas (f : Mk) (a n : Nat) (m : Nat × Nat) : Bool := decide (m.2 = 65535) || match f a n with | none => true | some x => nearer m.1 m.2 x.1 x.2
end Go.Proofs.YtjbogjbopgcbhaaGreatDoor.Src
namespace Go.Proofs.YtjbogjbopgcbhaaGreatDoor.Src
open Pre Ser
open Go.ChangeShapes Go.WideShapes Go.ChangeAt Go.RowKit
set_option maxRecDepth 8000
variable {lo : Nat}
theorem heap_new1 (w : World) (x c : Obj) : ((w.alloc x).alloc c).heap[w.heap.size + 1]? = some c := by
  have h := heap_alloc_new (w.alloc x) c
  have e : (w.alloc x).heap.size = w.heap.size + 1 := by simp
  rw [e] at h; exact h
theorem row2 {w : World} {b : Nat} {t : TypeId} {x0 x1 : Value} (h : w.heap[b]? = some (.cells #[x0, x1] t (0, 0))) : w.cell? ⟨b, 0, none⟩ = some x0 ∧ w.cell? ⟨b, 1, none⟩ = some x1 ∧ ∀ i, w.frozen? ⟨b, i, none⟩ = false :=
  ⟨cell_of_row w b 0 _ t (0, 0) h, cell_of_row w b 1 _ t (0, 0) h, fun i => frozen_of_row w b i _ t h⟩
theorem row1 {w : World} {b : Nat} {t : TypeId} {x0 : Value} (h : w.heap[b]? = some (.cells #[x0] t (0, 0))) : w.cell? ⟨b, 0, none⟩ = some x0 ∧ ∀ i, w.frozen? ⟨b, i, none⟩ = false :=
  ⟨cell_of_row w b 0 _ t (0, 0) h, fun i => frozen_of_row w b i _ t h⟩
theorem Tab_set2 {w : World} {b : Nat} {t : TypeId} {x0 x1 : Value} (h : w.heap[b]? = some (.cells #[x0, x1] t (0, 0))) (y0 y1 : Value) : ((w.setCell ⟨b, 0, none⟩ y0).setCell ⟨b, 1, none⟩ y1).heap[b]? = some (.cells #[y0, y1] t (0, 0)) := by
  have := heap_setCell_same (w.setCell ⟨b, 0, none⟩ y0) b 1 _ t y1 (heap_setCell_same w b 0 _ t y0 h)
  simpa using this
theorem set2_other {b i : Nat} (w : World) (h : i ≠ b) (y0 y1 : Value) : ((w.setCell ⟨b, 0, none⟩ y0).setCell ⟨b, 1, none⟩ y1).heap[i]? = w.heap[i]? :=
  (Below.heap_setCell _ ⟨b, 1, none⟩ y1 i h).trans (Below.heap_setCell w ⟨b, 0, none⟩ y0 i h)
theorem results_ct {P : Program} {fn : Func} {p u : Tmp} {ty : TypeId} (h : fn.results = #[.cell p ty, .tmp u]) (tmps : Array Value) (w : World) (g : Nat) (t : TypeId) (cs : Array Value) (fr : Nat × Nat) (d : TypeDesc) (y : Value)
    (hp : tmps.getD p undef = .pointer (some ⟨g, 0, none⟩)) (hy : tmps.getD u undef = y) (hg : w.heap[g]? = some (.cells cs t fr))
    (hu : P.underlying ty = some d) (hd : (match d with | .struct _ | .array _ _ => true | _ => false) = true) (hi : (P.info? ty).map (·.size) = some cs.size) :
    (results fn tmps).run P w = .ok (.tuple #[.agg cs, y]) w := by
  rw [results_cell_tmp h, hp, hy]
  simp [asAddr, run_loadVar_row w g t ty cs fr d hg hu hd hi, Result.andThen]
theorem MV.look {w : World} {v : Value} {f : Mk} {c : Nat} (h : MV lo w v f c) {a n : Nat} (ha : a < 4294967296) (hn : n < 256) :
    (Instr.lookup 165 v (pv a n) true).run Tryz.prog w = .ok (.tuple #[lookV (f a n), .bool (f a n).isSome]) w := by
  rcases h with ⟨rfl, rfl, -⟩ | ⟨b, rfl, -, h⟩
  · exact look_nil w ha hn
  · exact h.look ha hn
theorem New_any (w : World) : Calls Tryz.prog 111 #[] w fun e w' => e = .returned (.pointer (some ⟨w.heap.size, 0, none⟩)) ∧ SrcAt w.heap.size w' w.heap.size (fun _ _ => none) 0 ∧ Below w.heap.size w w' := by
  go_enter Tryz.func111, Tryz.ntmps111
  go_wp2
  go_ret
  exact ⟨rfl, ⟨Nat.le_refl _, .map none, heap_alloc_new w _, Or.inl ⟨rfl, rfl, rfl⟩⟩, (Below.refl _ _).alloc (Nat.le_refl _) _⟩
theorem Len_any (w : World) (q : Nat) (f : Mk) (c : Nat) (h : SrcAt lo w q f c) : Calls Tryz.prog 127 #[.pointer (some ⟨q, 0, none⟩)] w fun e w' => e = .returned (.int .i64 (c : Int)) ∧ w = w' := by
  have hq := h.lt
  obtain ⟨hl, v, hr, hv⟩ := h
  obtain ⟨p0, pf⟩ := row1 hr
  rcases hv with ⟨rfl, rfl, rfl⟩ | ⟨b, rfl, -, hm⟩
  · go_enter Tryz.func127, Tryz.ntmps127
    go_wp2
    go_ret
    exact ⟨rfl, rfl⟩
  · have hln := fun ty => hm.len ty
    go_enter Tryz.func127, Tryz.ntmps127
    go_wp2
    go_ret
    exact ⟨rfl, rfl⟩
set_option maxHeartbeats 1000000 in
theorem Mark_any (u : World) (q : Nat) (f : Mk) (c : Nat) (h : SrcAt lo u q f c) (a n : Nat) (ha : a < 4294967296) (hn : n < 256) :
    Calls Tryz.prog 56 #[.pointer (some ⟨q, 0, none⟩), pv a n] u fun e w' => e = .returned (.tuple #[lookV (f a n), .bool (f a n).isSome]) ∧ Below u.heap.size u w' := by
  have hq := h.lt
  obtain ⟨hl, v, hr, hv⟩ := h
  obtain ⟨x, hx⟩ : ∃ x, x = (f a n).getD (0, 0) := ⟨_, rfl⟩
  obtain ⟨hs, hhs⟩ : ∃ b, b = (f a n).isSome := ⟨_, rfl⟩
  rw [← hhs]
  have HQ : Hid (q < u.heap.size ∧ u.heap[q]? = some (.cells #[v] 167 (0, 0)) ∧ ∀ W, Below u.heap.size u W → (Instr.lookup 165 v (.agg #[.int .u32 (a : Int), .int .u8 (n : Int)]) true).run Tryz.prog W = .ok (.tuple #[.agg #[.int .u16 (x.1 : Int), .int .u16 (x.2 : Int)], .bool hs]) W) := by
    refine Lib.hid ⟨hq, hr, fun W hW => ?_⟩
    have := (hv.below hW).look ha hn
    unfold lookV mv pv at this
    rw [← hx, ← hhs] at this
    exact this
  have B0 := ((Below.refl u.heap.size u).alloc (Nat.le_refl _) (.cells #[.int .u32 (a : Int), .int .u8 (n : Int)] 30)).alloc (by simp) (.cells #[.int .u16 0, .int .u16 0] 48)
  have HB := Lib.hid (And.intro B0 (And.intro ((heap_alloc_old _ (.cells #[.int .u16 0, .int .u16 0] 48) (by simp)).trans (heap_alloc_new u (.cells #[.int .u32 (a : Int), .int .u8 (n : Int)] 30))) (heap_new1 u (.cells #[.int .u32 (a : Int), .int .u8 (n : Int)] 30) (.cells #[.int .u16 0, .int .u16 0] 48))))
  have hlv : lookV (f a n) = .agg #[.int .u16 (x.1 : Int), .int .u16 (x.2 : Int)] := by unfold lookV mv; rw [← hx]
  rw [hlv]
  clear B0 hv hr hx hhs hlv hl
  unfold pv
  go_enter Tryz.func56, Tryz.ntmps56
  go_upto_region 3 with (fail)
  generalize (u.alloc (.cells #[.int .u32 (a : Int), .int .u8 (n : Int)] 30)).alloc (.cells #[.int .u16 0, .int .u16 0] 48) = w1 at *
  refine wp_region_noPanic ?_
  refine wp_region_held_drew (S := fun x : World => Below u.heap.size u x ∧ x.heap[u.heap.size]? = some (.cells #[.int .u32 (a : Int), .int .u8 (n : Int)] 30 (0, 0)) ∧ x.heap[u.heap.size + 1]? = some (.cells #[.int .u16 0, .int .u16 0] 48 (0, 0))) (by kernel_rfl) ⟨HB.out.1.drew, HB.out.2.1, HB.out.2.2⟩ (fun hHeld => ?_)
  generalize w1.drew = wd at *
  refine wpAnyH_take (i := 0) (oi := ⟨some 12, .move (.tmp 0), 89, "source.go:34", #[], none⟩) (v := .pointer (some ⟨q, 0, none⟩)) rfl (by kernel_rfl) (by kernel_rfl) (by kernel_rfl) (fun _ _ _ h => h) (Or.inl ⟨by rfl, fun w hSw => by go_simp⟩) (by assumption) ?_
  try simp only [Act.put, List.setIfInBounds_toArray, List.set_cons_zero, List.set_cons_succ]
  refine wpAnyH_take (i := 1) (oi := ⟨some 13, .nilCheck (.tmp 12), 0, "source.go:34", #[⟨0, .data⟩], none⟩) (v := .pointer (some ⟨q, 0, none⟩)) rfl (by kernel_rfl) (by kernel_rfl) (by kernel_rfl) (fun _ _ _ h => h) (Or.inl ⟨by rfl, fun w hSw => by go_simp⟩) (by assumption) ?_
  try simp only [Act.put, List.setIfInBounds_toArray, List.set_cons_zero, List.set_cons_succ]
  refine wpAnyH_take (i := 2) (oi := ⟨some 14, .fieldAddr 167 (.tmp 13) 0, 0, "source.go:34", #[⟨1, .data⟩], none⟩) (v := .pointer (some ⟨q, 0, none⟩)) rfl (by kernel_rfl) (by kernel_rfl) (by kernel_rfl) (fun _ _ _ h => h) (Or.inl ⟨by rfl, fun w hSw => by go_simp⟩) (by assumption) ?_
  try simp only [Act.put, List.setIfInBounds_toArray, List.set_cons_zero, List.set_cons_succ]
  refine wpAnyH_take (i := 3) (oi := ⟨some 15, .load 165 (.tmp 14), 165, "source.go:34", #[⟨2, .data⟩], none⟩) (v := v) rfl (by kernel_rfl) (by kernel_rfl) (by kernel_rfl) (fun _ _ _ h => h) (Or.inl ⟨by rfl, fun w hSw => by obtain ⟨p0, -⟩ := row1 ((hSw.1.block _ HQ.out.1).trans HQ.out.2.1); go_simp⟩) (by assumption) ?_
  try simp only [Act.put, List.setIfInBounds_toArray, List.set_cons_zero, List.set_cons_succ]
  refine wpAnyH_take (i := 4) (oi := ⟨some 16, .load 30 (.tmp 3), 30, "source.go:34", #[], none⟩) (v := .agg #[.int .u32 (a : Int), .int .u8 (n : Int)]) rfl (by kernel_rfl) (by kernel_rfl) (by kernel_rfl) (fun _ _ _ h => h) (Or.inl ⟨by rfl, fun w hSw => by obtain ⟨u0, u1, -⟩ := row2 hSw.2.1; go_simp⟩) (by assumption) ?_
  try simp only [Act.put, List.setIfInBounds_toArray, List.set_cons_zero, List.set_cons_succ]
  refine wpAnyH_take (i := 5) (oi := ⟨some 17, .lookup 165 (.tmp 15) (.tmp 16) true, 55, "source.go:34", #[⟨3, .data⟩, ⟨4, .data⟩], none⟩) (v := .tuple #[.agg #[.int .u16 (x.1 : Int), .int .u16 (x.2 : Int)], .bool hs]) rfl (by kernel_rfl) (by kernel_rfl) (by kernel_rfl) (fun _ _ _ h => h) (Or.inl ⟨by rfl, fun w hSw => by have hl := HQ.out.2.2 w hSw.1; go_simp⟩) (by assumption) ?_
  try simp only [Act.put, List.setIfInBounds_toArray, List.set_cons_zero, List.set_cons_succ]
  refine wpAnyH_take (i := 6) (oi := ⟨some 11, .move (.tmp 17), 55, "source.go:34", #[⟨5, .data⟩], none⟩) (v := .tuple #[.agg #[.int .u16 (x.1 : Int), .int .u16 (x.2 : Int)], .bool hs]) rfl (by kernel_rfl) (by kernel_rfl) (by kernel_rfl) (fun _ _ _ h => h) (Or.inl ⟨by rfl, fun w hSw => by go_simp⟩) (by assumption) ?_
  try simp only [Act.put, List.setIfInBounds_toArray, List.set_cons_zero, List.set_cons_succ]
  refine wpAnyH_take (i := 7) (oi := ⟨some 18, .extract (.tmp 11) 0, 48, "source.go:34", #[⟨6, .data⟩], none⟩) (v := .agg #[.int .u16 (x.1 : Int), .int .u16 (x.2 : Int)]) rfl (by kernel_rfl) (by kernel_rfl) (by kernel_rfl) (fun _ _ _ h => h) (Or.inl ⟨by rfl, fun w hSw => by go_simp⟩) (by assumption) ?_
  try simp only [Act.put, List.setIfInBounds_toArray, List.set_cons_zero, List.set_cons_succ]
  refine wpAnyH_take (i := 8) (oi := ⟨some 19, .extract (.tmp 11) 1, 4, "source.go:34", #[⟨6, .data⟩, ⟨10, .gcOnly .lateStores⟩], none⟩) (v := .bool hs) rfl (by kernel_rfl) (by kernel_rfl) (by kernel_rfl) (fun _ _ _ h => h) (Or.inl ⟨by rfl, fun w hSw => by go_simp⟩) (by assumption) ?_
  try simp only [Act.put, List.setIfInBounds_toArray, List.set_cons_zero, List.set_cons_succ]
  refine wpAnyH_ready (rs := [9]) (by kernel_rfl) (by simp) ?_
  refine AllReadyH.cons (o := ⟨some 6, .alloc 48, 0, "source.go:34", #[], none⟩) rfl (fun K hK => ?_) AllReadyH.nil
  go_simp
  refine hK.out _ _ (⟨hHeld.1.alloc hHeld.1.size _, (heap_alloc_old _ _ (Array.getElem?_eq_some_iff.1 hHeld.2.1).1).trans hHeld.2.1, (heap_alloc_old _ _ (Array.getElem?_eq_some_iff.1 hHeld.2.2).1).trans hHeld.2.2⟩) (fun hHeld2 => ?_)
  clear hK K
  have hH0 := hHeld
  clear hHeld
  have hHeld := hHeld2
  obtain ⟨n0, n1, nf⟩ := row2 (heap_alloc_new wd (.cells #[.int .u16 0, .int .u16 0] 48))
  have hsz : u.heap.size + 1 < wd.heap.size := (Array.getElem?_eq_some_iff.1 hH0.2.2).1
  try simp only [Act.put, List.setIfInBounds_toArray, List.set_cons_zero, List.set_cons_succ]
  refine wpAnyH_ready (rs := [10]) (by kernel_rfl) (by simp) ?_
  refine AllReadyH.cons (o := ⟨none, .store 48 (.tmp 6) (.tmp 18), 0, "source.go:34", #[⟨9, .data⟩, ⟨7, .data⟩, ⟨0, .phase⟩, ⟨1, .phase⟩, ⟨2, .phase⟩, ⟨3, .phase⟩, ⟨4, .phase⟩, ⟨5, .phase⟩, ⟨6, .phase⟩, ⟨7, .phase⟩, ⟨8, .textOnly .lateStores⟩, ⟨9, .phase⟩], none⟩) rfl (fun K hK => ?_) AllReadyH.nil
  go_simp
  refine hK.out _ _ (⟨hH0.1.alloc hH0.1.size _, (heap_alloc_old _ _ (Array.getElem?_eq_some_iff.1 hH0.2.1).1).trans hH0.2.1, (heap_alloc_old _ _ (Array.getElem?_eq_some_iff.1 hH0.2.2).1).trans hH0.2.2⟩) (fun hHeld3 => ?_)
  clear hK K hHeld2 hHeld n0 n1 nf
  have hHeld := hHeld3
  clear hHeld3
  try simp only [Act.put, List.setIfInBounds_toArray, List.set_cons_zero, List.set_cons_succ]
  refine wpAnyH_take (i := 11) (oi := ⟨some 7, .assign (.tmp 19), 4, "source.go:34", #[⟨8, .data⟩, ⟨10, .chain⟩, ⟨0, .phase⟩, ⟨1, .phase⟩, ⟨2, .phase⟩, ⟨3, .phase⟩, ⟨4, .phase⟩, ⟨5, .phase⟩, ⟨6, .phase⟩, ⟨7, .phase⟩, ⟨8, .phase⟩, ⟨9, .phase⟩, ⟨10, .phase⟩], none⟩) (v := .bool hs) rfl (by kernel_rfl) (by kernel_rfl) (by kernel_rfl) (fun _ _ _ h => h) (Or.inl ⟨by rfl, fun w hSw => by go_simp⟩) (by assumption) ?_
  try simp only [Act.put, List.setIfInBounds_toArray, List.set_cons_zero, List.set_cons_succ]
  refine wpAnyH_done (by kernel_rfl) ?_ _
  try unfold NoPanic
  obtain ⟨n0, n1, nf⟩ := row2 (heap_alloc_new wd (.cells #[.int .u16 (x.1 : Int), .int .u16 (x.2 : Int)] 48))
  obtain ⟨r0, r1, rf⟩ := row2 hHeld.2.2
  have hl2 := (Array.getElem?_eq_some_iff.1 hHeld.2.2).1
  have hss : wd.heap.size < (wd.alloc (.cells #[.int .u16 (x.1 : Int), .int .u16 (x.2 : Int)] 48)).heap.size := by simp
  generalize wd.alloc (.cells #[.int .u16 (x.1 : Int), .int .u16 (x.2 : Int)] 48) = we at *
  go_wp2
  refine bodyPost_ret (results_ct rfl _ _ (u.heap.size + 1) 48 #[.int .u16 (x.1 : Int), .int .u16 (x.2 : Int)] (0, 0) _ (.bool hs) rfl rfl (Tab_set2 hHeld.2.2 _ _) Tryz.underlying48 rfl (by kernel_rfl)) rfl ⟨rfl, (hHeld.1.setCell (p := ⟨u.heap.size + 1, 0, none⟩) (by show u.heap.size ≤ u.heap.size + 1; omega) _).setCell (p := ⟨u.heap.size + 1, 1, none⟩) (by show u.heap.size ≤ u.heap.size + 1; omega) _⟩
theorem K.grown {u w1 w2 : World} {b c : Nat} {f : Mk} (h : K lo u w1) (hl : lo ≤ u.heap.size) (g : w1.grownBy w2 (some b)) (hb : lo ≤ b) (hm : MapAt w1 b f c) : K lo u w2 :=
  ⟨below_grown h.below hl g hb, fun i x t fr e ht => by
    have e1 := h.cells i x t fr e ht
    refine (g.block i (Array.getElem?_eq_some_iff.1 e1).1 ?_).trans e1
    intro e2; injection e2 with e2; subst e2
    obtain ⟨es, cl, e3⟩ := hm.isMap
    rw [e1] at e3; cases e3⟩
theorem K.src {u w1 w2 : World} {q c : Nat} {f : Mk} (h : K lo u w1) (hl : lo ≤ u.heap.size) (g : w1.grownBy w2 (some q)) (hm : SrcAt lo w1 q f c) : K lo u w2 := by
  obtain ⟨hq, v, hr, -⟩ := hm
  exact ⟨below_grown h.below hl g hq, fun i x t fr e ht => by
    have e1 := h.cells i x t fr e ht
    refine (g.block i (Array.getElem?_eq_some_iff.1 e1).1 ?_).trans e1
    intro e2; injection e2 with e2; subst e2
    rw [hr] at e1; injection e1 with e1; injection e1 with _ e3 _; exact absurd e3.symm ht⟩
theorem drew_grown (w : World) (row : Option Nat) : w.grownBy w.drew row := ⟨rfl, rfl, rfl, Nat.le_refl _, fun _ _ _ => rfl⟩
theorem set_grown (w : World) (a : Addr) (v : Value) : w.grownBy (w.setCell a v) (some a.block) := by
  refine ⟨rfl, rfl, rfl, by simp, fun k _ h => Below.heap_setCell w a v k (by intro e; exact h (by rw [e]))⟩
theorem run_eq_map_nil' (W : World) (r : Option Nat) : (binOp .eql 165 (.map r) (.map none)).run Tryz.prog W = .ok (.bool r.isNone) W := by
  cases r <;> kernel_rfl
structure SetP (lo : Nat) (u w : World) (q b a n : Nat) (m : Nat × Nat) (f : Mk) (c : Nat) : Prop where
  k : K lo u w
  qr : w.heap[q]? = some (.cells #[.map (some b)] 167 (0, 0))
  lb : lo ≤ b
  mp : MapAt w b f c
  r0 : w.heap[u.heap.size]? = some (.cells #[.int .u32 (a : Int), .int .u8 (n : Int)] 30 (0, 0))
  r1 : w.heap[u.heap.size + 1]? = some (.cells #[.int .u16 (m.1 : Int), .int .u16 (m.2 : Int)] 48 (0, 0))
set_option maxHeartbeats 1000000 in
theorem set_any (u : World) (q : Nat) (f : Mk) (c : Nat) (h : SrcAt lo u q f c) (hlu : lo ≤ u.heap.size) (a n : Nat) (ha : a < 4294967296) (hn : n < 256) (m : Nat × Nat) (hc : c < 100000) :
    Calls Tryz.prog 129 #[.pointer (some ⟨q, 0, none⟩), pv a n, mv m] u fun e w' => e = .returned (.tuple #[]) ∧ SrcAt lo w' q (f.put a n m) (if (f a n).isSome then c else c + 1) ∧ K lo u w' := by
  obtain ⟨c', hc'⟩ : ∃ c', c' = if (f a n).isSome then c else c + 1 := ⟨_, rfl⟩
  rw [← hc']
  have HC' := Lib.hid hc'
  clear hc'
  have hq := h.lt
  have hlq := h.1
  have B1 := ((Below.refl u.heap.size u).alloc (Nat.le_refl _) (.cells #[.int .u32 (a : Int), .int .u8 (n : Int)] 30)).alloc (by simp) (.cells #[.int .u16 (m.1 : Int), .int .u16 (m.2 : Int)] 48)
  have hS1 := h.below B1
  have k1 : K lo u ((u.alloc (.cells #[.int .u32 (a : Int), .int .u8 (n : Int)] 30)).alloc (.cells #[.int .u16 (m.1 : Int), .int .u16 (m.2 : Int)] 48)) := K.of B1 hlu
  have r0 : ((u.alloc (.cells #[.int .u32 (a : Int), .int .u8 (n : Int)] 30)).alloc (.cells #[.int .u16 (m.1 : Int), .int .u16 (m.2 : Int)] 48)).heap[u.heap.size]? = some (.cells #[.int .u32 (a : Int), .int .u8 (n : Int)] 30 (0, 0)) := (heap_alloc_old _ (.cells #[.int .u16 (m.1 : Int), .int .u16 (m.2 : Int)] 48) (by simp)).trans (heap_alloc_new u (.cells #[.int .u32 (a : Int), .int .u8 (n : Int)] 30))
  have r1 : ((u.alloc (.cells #[.int .u32 (a : Int), .int .u8 (n : Int)] 30)).alloc (.cells #[.int .u16 (m.1 : Int), .int .u16 (m.2 : Int)] 48)).heap[u.heap.size + 1]? = some (.cells #[.int .u16 (m.1 : Int), .int .u16 (m.2 : Int)] 48 (0, 0)) := heap_new1 u (.cells #[.int .u32 (a : Int), .int .u8 (n : Int)] 30) (.cells #[.int .u16 (m.1 : Int), .int .u16 (m.2 : Int)] 48)
  have hz2 : ((u.alloc (.cells #[.int .u32 (a : Int), .int .u8 (n : Int)] 30)).alloc (.cells #[.int .u16 (m.1 : Int), .int .u16 (m.2 : Int)] 48)).heap.size = u.heap.size + 1 + 1 := by simp
  obtain ⟨-, v, hr, hv⟩ := hS1
  have hq1 := (Array.getElem?_eq_some_iff.1 hr).1
  have hq2 : q ≠ u.heap.size + 1 + 1 := by omega
  unfold pv mv
  rcases hv with ⟨rfl, hf, hc0⟩ | ⟨b, rfl, hb, hm⟩
  · have hS2 : SrcAt lo (((u.alloc (.cells #[.int .u32 (a : Int), .int .u8 (n : Int)] 30)).alloc (.cells #[.int .u16 (m.1 : Int), .int .u16 (m.2 : Int)] 48)).alloc (.map #[] 0)) q f c := ⟨hlq, .map none, (heap_alloc_old _ _ hq1).trans hr, Or.inl ⟨rfl, hf, hc0⟩⟩
    have hG2 := set_grown (((u.alloc (.cells #[.int .u32 (a : Int), .int .u8 (n : Int)] 30)).alloc (.cells #[.int .u16 (m.1 : Int), .int .u16 (m.2 : Int)] 48)).alloc (.map #[] 0)) ⟨q, 0, none⟩ (.map (some (u.heap.size + 1 + 1)))
    obtain ⟨b, HP⟩ : ∃ b, Hid (SetP lo u ((((u.alloc (.cells #[.int .u32 (a : Int), .int .u8 (n : Int)] 30)).alloc (.cells #[.int .u16 (m.1 : Int), .int .u16 (m.2 : Int)] 48)).alloc (.map #[] 0)).setCell ⟨q, 0, none⟩ (.map (some (u.heap.size + 1 + 1)))) q b a n m f c) := by
      refine ⟨u.heap.size + 1 + 1, ?_⟩
      have hM := MapAt.made ((u.alloc (.cells #[.int .u32 (a : Int), .int .u8 (n : Int)] 30)).alloc (.cells #[.int .u16 (m.1 : Int), .int .u16 (m.2 : Int)] 48))
      rw [hz2] at hM
      have hM : MapAt (((u.alloc (.cells #[.int .u32 (a : Int), .int .u8 (n : Int)] 30)).alloc (.cells #[.int .u16 (m.1 : Int), .int .u16 (m.2 : Int)] 48)).alloc (.map #[] 0)) (u.heap.size + 1 + 1) f c := by rw [hf, hc0]; exact hM
      refine Lib.hid ⟨(k1.trans (K.of ((Below.refl _ _).alloc (Nat.le_refl _) _) (Nat.le_trans hlu k1.below.size))).src hlu hG2 hS2, ?_, by omega, hM.kept hG2 (fun e => hq2 (Option.some.inj e).symm), ?_, ?_⟩
      · have := heap_setCell_same _ q 0 _ 167 (.map (some (u.heap.size + 1 + 1))) ((heap_alloc_old ((u.alloc (.cells #[.int .u32 (a : Int), .int .u8 (n : Int)] 30)).alloc (.cells #[.int .u16 (m.1 : Int), .int .u16 (m.2 : Int)] 48)) (.map #[] 0) hq1).trans hr)
        simpa using this
      · exact (hG2.block _ (by simp; try omega) (by intro e; injection e with e; change u.heap.size = q at e; omega)).trans ((heap_alloc_old _ _ (by simp; omega)).trans r0)
      · exact (hG2.block _ (by simp; try omega) (by intro e; injection e with e; change u.heap.size + 1 = q at e; omega)).trans ((heap_alloc_old _ _ (by simp)).trans r1)
    obtain ⟨p0, pf⟩ := row1 ((B1.block q hq).symm.trans hr)
    obtain ⟨p02, pf2⟩ := row1 ((heap_alloc_old ((u.alloc (.cells #[.int .u32 (a : Int), .int .u8 (n : Int)] 30)).alloc (.cells #[.int .u16 (m.1 : Int), .int .u16 (m.2 : Int)] 48)) (.map #[] 0) hq1).trans hr)
    clear hr
    clear hS2 hG2 B1 k1 r0 r1 hz2
    have hmn := fun W => run_eq_map_nil' W none
    have hmm := @run_makeMap Tryz.prog
    go_enter Tryz.func129, Tryz.ntmps129
    clear hf hc0
    go_upto_region 3 with (fail)
    generalize hw9 : World.setCell _ _ _ = w9 at HP ⊢
    clear hw9
    have hMP : MapAt w9.drew b f c := HP.out.mp.kept (drew_grown _ none) (by simp)
    have hK9 : K lo u w9.drew := ⟨HP.out.k.below.drew, HP.out.k.cells⟩
    refine wp_region_noPanic ?_
    refine wp_region_held_drew (S := fun x : World => x.heap[q]? = some (.cells #[.map (some b)] 167 (0, 0)) ∧ x.heap[u.heap.size]? = some (.cells #[.int .u32 (a : Int), .int .u8 (n : Int)] 30 (0, 0)) ∧ x.heap[u.heap.size + 1]? = some (.cells #[.int .u16 (m.1 : Int), .int .u16 (m.2 : Int)] 48 (0, 0))) (by kernel_rfl) ⟨HP.out.qr, HP.out.r0, HP.out.r1⟩ (fun hHeld => ?_)
    generalize w9.drew = wd at *
    obtain ⟨w', hu, hM', hG'⟩ := hMP.put ha hn hc m
    have hne1 : u.heap.size ≠ b := fun e => by obtain ⟨es, cl, e3⟩ := hMP.isMap; rw [← e, hHeld.2.1] at e3; cases e3
    have hne2 : u.heap.size + 1 ≠ b := fun e => by obtain ⟨es, cl, e3⟩ := hMP.isMap; rw [← e, hHeld.2.2] at e3; cases e3
    have hne3 : q ≠ b := fun e => by obtain ⟨es, cl, e3⟩ := hMP.isMap; rw [← e, hHeld.1] at e3; cases e3
    have hHx : w'.heap[q]? = some (.cells #[.map (some b)] 167 (0, 0)) := (hG'.block q (Array.getElem?_eq_some_iff.1 hHeld.1).1 (by intro e; injection e with e; exact hne3 e)).trans hHeld.1
    have hHy : w'.heap[u.heap.size]? = some (.cells #[.int .u32 (a : Int), .int .u8 (n : Int)] 30 (0, 0)) := (hG'.block _ (Array.getElem?_eq_some_iff.1 hHeld.2.1).1 (by intro e; injection e with e; exact hne1 e)).trans hHeld.2.1
    have hHz : w'.heap[u.heap.size + 1]? = some (.cells #[.int .u16 (m.1 : Int), .int .u16 (m.2 : Int)] 48 (0, 0)) := (hG'.block _ (Array.getElem?_eq_some_iff.1 hHeld.2.2).1 (by intro e; injection e with e; exact hne2 e)).trans hHeld.2.2
    have HF := Lib.hid (And.intro (show SrcAt lo w' q (f.put a n m) c' from ⟨hlq, _, hHx, Or.inr ⟨b, rfl, HP.out.lb, HC'.out ▸ hM'⟩⟩) (hK9.grown hlu hG' HP.out.lb hMP))
    have HH := Lib.hid (And.intro hHx (And.intro hHy hHz))
    unfold pv mv at hu
    clear hHx hHy hHz hne1 hne2 hne3 hM' hG' hMP hK9 HP
    refine wpAnyH_take (i := 0) (oi := ⟨some 15, .move (.tmp 0), 89, "source.go:68", #[], none⟩) (v := .pointer (some ⟨q, 0, none⟩)) rfl (by kernel_rfl) (by kernel_rfl) (by kernel_rfl) (fun _ _ _ h => h) (Or.inl ⟨by rfl, fun w hSw => by go_simp⟩) (by assumption) ?_
    try simp only [Act.put, List.setIfInBounds_toArray, List.set_cons_zero, List.set_cons_succ]
    refine wpAnyH_take (i := 1) (oi := ⟨some 16, .nilCheck (.tmp 15), 0, "source.go:68", #[⟨0, .data⟩], none⟩) (v := .pointer (some ⟨q, 0, none⟩)) rfl (by kernel_rfl) (by kernel_rfl) (by kernel_rfl) (fun _ _ _ h => h) (Or.inl ⟨by rfl, fun w hSw => by go_simp⟩) (by assumption) ?_
    try simp only [Act.put, List.setIfInBounds_toArray, List.set_cons_zero, List.set_cons_succ]
    refine wpAnyH_take (i := 2) (oi := ⟨some 17, .fieldAddr 167 (.tmp 16) 0, 0, "source.go:68", #[⟨1, .data⟩], none⟩) (v := .pointer (some ⟨q, 0, none⟩)) rfl (by kernel_rfl) (by kernel_rfl) (by kernel_rfl) (fun _ _ _ h => h) (Or.inl ⟨by rfl, fun w hSw => by go_simp⟩) (by assumption) ?_
    try simp only [Act.put, List.setIfInBounds_toArray, List.set_cons_zero, List.set_cons_succ]
    refine wpAnyH_take (i := 3) (oi := ⟨some 18, .load 165 (.tmp 17), 165, "source.go:68", #[⟨2, .data⟩], none⟩) (v := .map (some b)) rfl (by kernel_rfl) (by kernel_rfl) (by kernel_rfl) (fun _ _ _ h => h) (Or.inl ⟨by rfl, fun w hSw => by obtain ⟨p0, -⟩ := row1 hSw.1; go_simp⟩) (by assumption) ?_
    try simp only [Act.put, List.setIfInBounds_toArray, List.set_cons_zero, List.set_cons_succ]
    refine wpAnyH_take (i := 4) (oi := ⟨some 19, .load 30 (.tmp 4), 30, "source.go:68", #[], none⟩) (v := .agg #[.int .u32 (a : Int), .int .u8 (n : Int)]) rfl (by kernel_rfl) (by kernel_rfl) (by kernel_rfl) (fun _ _ _ h => h) (Or.inl ⟨by rfl, fun w hSw => by obtain ⟨u0, u1, -⟩ := row2 hSw.2.1; go_simp⟩) (by assumption) ?_
    try simp only [Act.put, List.setIfInBounds_toArray, List.set_cons_zero, List.set_cons_succ]
    refine wpAnyH_take (i := 5) (oi := ⟨some 20, .load 48 (.tmp 5), 48, "source.go:68", #[], none⟩) (v := .agg #[.int .u16 (m.1 : Int), .int .u16 (m.2 : Int)]) rfl (by kernel_rfl) (by kernel_rfl) (by kernel_rfl) (fun _ _ _ h => h) (Or.inl ⟨by rfl, fun w hSw => by obtain ⟨u0, u1, -⟩ := row2 hSw.2.2; go_simp⟩) (by assumption) ?_
    try simp only [Act.put, List.setIfInBounds_toArray, List.set_cons_zero, List.set_cons_succ]
    refine wpAnyH_ready (rs := [6]) (by kernel_rfl) (by simp) ?_
    refine AllReadyH.cons (o := ⟨none, .mapUpdate 165 (.tmp 18) (.tmp 19) (.tmp 20), 0, "source.go:68", #[⟨3, .data⟩, ⟨4, .data⟩, ⟨5, .data⟩, ⟨0, .phase⟩, ⟨1, .phase⟩, ⟨2, .phase⟩, ⟨3, .phase⟩, ⟨4, .phase⟩, ⟨5, .phase⟩], none⟩) rfl (fun K hK => ?_) AllReadyH.nil
    go_simp
    refine hK.out _ _ HH.out (fun hHeld2 => ?_)
    clear hK K hHeld2 hHeld
    try simp only [Act.put, List.setIfInBounds_toArray, List.set_cons_zero, List.set_cons_succ]
    refine wpAnyH_done (by kernel_rfl) ?_ _
    try unfold NoPanic
    go_wp2
    exact bodyPost_end (v := .tuple #[]) (by simp [results, Tryz.results129]) rfl ⟨rfl, HF.out.1, HF.out.2⟩
  · have HP : Hid (SetP lo u ((u.alloc (.cells #[.int .u32 (a : Int), .int .u8 (n : Int)] 30)).alloc (.cells #[.int .u16 (m.1 : Int), .int .u16 (m.2 : Int)] 48)) q b a n m f c) := Lib.hid ⟨k1, hr, hb, hm, r0, r1⟩
    obtain ⟨p0, pf⟩ := row1 ((B1.block q hq).symm.trans hr)
    clear hr B1 k1 r0 r1 hz2 hm hb
    have hmn := fun W => run_eq_map_nil' W (some b)
    go_enter Tryz.func129, Tryz.ntmps129
    go_upto_region 3 with (fail)
    generalize hw9 : World.alloc _ _ = w9 at HP ⊢
    clear hw9
    have hMP : MapAt w9.drew b f c := HP.out.mp.kept (drew_grown _ none) (by simp)
    have hK9 : K lo u w9.drew := ⟨HP.out.k.below.drew, HP.out.k.cells⟩
    refine wp_region_noPanic ?_
    refine wp_region_held_drew (S := fun x : World => x.heap[q]? = some (.cells #[.map (some b)] 167 (0, 0)) ∧ x.heap[u.heap.size]? = some (.cells #[.int .u32 (a : Int), .int .u8 (n : Int)] 30 (0, 0)) ∧ x.heap[u.heap.size + 1]? = some (.cells #[.int .u16 (m.1 : Int), .int .u16 (m.2 : Int)] 48 (0, 0))) (by kernel_rfl) ⟨HP.out.qr, HP.out.r0, HP.out.r1⟩ (fun hHeld => ?_)
    generalize w9.drew = wd at *
    obtain ⟨w', hu, hM', hG'⟩ := hMP.put ha hn hc m
    have hne1 : u.heap.size ≠ b := fun e => by obtain ⟨es, cl, e3⟩ := hMP.isMap; rw [← e, hHeld.2.1] at e3; cases e3
    have hne2 : u.heap.size + 1 ≠ b := fun e => by obtain ⟨es, cl, e3⟩ := hMP.isMap; rw [← e, hHeld.2.2] at e3; cases e3
    have hne3 : q ≠ b := fun e => by obtain ⟨es, cl, e3⟩ := hMP.isMap; rw [← e, hHeld.1] at e3; cases e3
    have hHx : w'.heap[q]? = some (.cells #[.map (some b)] 167 (0, 0)) := (hG'.block q (Array.getElem?_eq_some_iff.1 hHeld.1).1 (by intro e; injection e with e; exact hne3 e)).trans hHeld.1
    have hHy : w'.heap[u.heap.size]? = some (.cells #[.int .u32 (a : Int), .int .u8 (n : Int)] 30 (0, 0)) := (hG'.block _ (Array.getElem?_eq_some_iff.1 hHeld.2.1).1 (by intro e; injection e with e; exact hne1 e)).trans hHeld.2.1
    have hHz : w'.heap[u.heap.size + 1]? = some (.cells #[.int .u16 (m.1 : Int), .int .u16 (m.2 : Int)] 48 (0, 0)) := (hG'.block _ (Array.getElem?_eq_some_iff.1 hHeld.2.2).1 (by intro e; injection e with e; exact hne2 e)).trans hHeld.2.2
    have HF := Lib.hid (And.intro (show SrcAt lo w' q (f.put a n m) c' from ⟨hlq, _, hHx, Or.inr ⟨b, rfl, HP.out.lb, HC'.out ▸ hM'⟩⟩) (hK9.grown hlu hG' HP.out.lb hMP))
    have HH := Lib.hid (And.intro hHx (And.intro hHy hHz))
    unfold pv mv at hu
    clear hHx hHy hHz hne1 hne2 hne3 hM' hG' hMP hK9 HP
    refine wpAnyH_take (i := 0) (oi := ⟨some 15, .move (.tmp 0), 89, "source.go:68", #[], none⟩) (v := .pointer (some ⟨q, 0, none⟩)) rfl (by kernel_rfl) (by kernel_rfl) (by kernel_rfl) (fun _ _ _ h => h) (Or.inl ⟨by rfl, fun w hSw => by go_simp⟩) (by assumption) ?_
    try simp only [Act.put, List.setIfInBounds_toArray, List.set_cons_zero, List.set_cons_succ]
    refine wpAnyH_take (i := 1) (oi := ⟨some 16, .nilCheck (.tmp 15), 0, "source.go:68", #[⟨0, .data⟩], none⟩) (v := .pointer (some ⟨q, 0, none⟩)) rfl (by kernel_rfl) (by kernel_rfl) (by kernel_rfl) (fun _ _ _ h => h) (Or.inl ⟨by rfl, fun w hSw => by go_simp⟩) (by assumption) ?_
    try simp only [Act.put, List.setIfInBounds_toArray, List.set_cons_zero, List.set_cons_succ]
    refine wpAnyH_take (i := 2) (oi := ⟨some 17, .fieldAddr 167 (.tmp 16) 0, 0, "source.go:68", #[⟨1, .data⟩], none⟩) (v := .pointer (some ⟨q, 0, none⟩)) rfl (by kernel_rfl) (by kernel_rfl) (by kernel_rfl) (fun _ _ _ h => h) (Or.inl ⟨by rfl, fun w hSw => by go_simp⟩) (by assumption) ?_
    try simp only [Act.put, List.setIfInBounds_toArray, List.set_cons_zero, List.set_cons_succ]
    refine wpAnyH_take (i := 3) (oi := ⟨some 18, .load 165 (.tmp 17), 165, "source.go:68", #[⟨2, .data⟩], none⟩) (v := .map (some b)) rfl (by kernel_rfl) (by kernel_rfl) (by kernel_rfl) (fun _ _ _ h => h) (Or.inl ⟨by rfl, fun w hSw => by obtain ⟨p0, -⟩ := row1 hSw.1; go_simp⟩) (by assumption) ?_
    try simp only [Act.put, List.setIfInBounds_toArray, List.set_cons_zero, List.set_cons_succ]
    refine wpAnyH_take (i := 4) (oi := ⟨some 19, .load 30 (.tmp 4), 30, "source.go:68", #[], none⟩) (v := .agg #[.int .u32 (a : Int), .int .u8 (n : Int)]) rfl (by kernel_rfl) (by kernel_rfl) (by kernel_rfl) (fun _ _ _ h => h) (Or.inl ⟨by rfl, fun w hSw => by obtain ⟨u0, u1, -⟩ := row2 hSw.2.1; go_simp⟩) (by assumption) ?_
    try simp only [Act.put, List.setIfInBounds_toArray, List.set_cons_zero, List.set_cons_succ]
    refine wpAnyH_take (i := 5) (oi := ⟨some 20, .load 48 (.tmp 5), 48, "source.go:68", #[], none⟩) (v := .agg #[.int .u16 (m.1 : Int), .int .u16 (m.2 : Int)]) rfl (by kernel_rfl) (by kernel_rfl) (by kernel_rfl) (fun _ _ _ h => h) (Or.inl ⟨by rfl, fun w hSw => by obtain ⟨u0, u1, -⟩ := row2 hSw.2.2; go_simp⟩) (by assumption) ?_
    try simp only [Act.put, List.setIfInBounds_toArray, List.set_cons_zero, List.set_cons_succ]
    refine wpAnyH_ready (rs := [6]) (by kernel_rfl) (by simp) ?_
    refine AllReadyH.cons (o := ⟨none, .mapUpdate 165 (.tmp 18) (.tmp 19) (.tmp 20), 0, "source.go:68", #[⟨3, .data⟩, ⟨4, .data⟩, ⟨5, .data⟩, ⟨0, .phase⟩, ⟨1, .phase⟩, ⟨2, .phase⟩, ⟨3, .phase⟩, ⟨4, .phase⟩, ⟨5, .phase⟩], none⟩) rfl (fun K hK => ?_) AllReadyH.nil
    go_simp
    refine hK.out _ _ HH.out (fun hHeld2 => ?_)
    clear hK K hHeld2 hHeld
    try simp only [Act.put, List.setIfInBounds_toArray, List.set_cons_zero, List.set_cons_succ]
    refine wpAnyH_done (by kernel_rfl) ?_ _
    try unfold NoPanic
    go_wp2
    exact bodyPost_end (v := .tuple #[]) (by simp [results, Tryz.results129]) rfl ⟨rfl, HF.out.1, HF.out.2⟩
end Go.Proofs.YtjbogjbopgcbhaaGreatDoor.Src
namespace Go.Proofs.YtjbogjbopgcbhaaGreatDoor.Src
open Pre Ser
open Go.ChangeShapes Go.WideShapes Go.ChangeAt Go.RowKit
set_option maxRecDepth 8000
variable {lo : Nat}
theorem look_form (f : Mk) (a n : Nat) : ∃ x : Nat × Nat, lookV (f a n) = .agg #[.int .u16 (x.1 : Int), .int .u16 (x.2 : Int)] ∧ ∀ y, f a n = some y → x = y := by
  cases h : f a n with
  | none => exact ⟨(0, 0), rfl, fun y e => by cases e⟩
  | some m => exact ⟨m, rfl, fun y e => by injection e⟩
theorem feas_any (u : World) (q : Nat) (f : Mk) (c : Nat) (h : SrcAt lo u q f c) (a n : Nat) (ha : a < 4294967296) (hn : n < 256) (m : Nat × Nat) :
    Calls Tryz.prog 132 #[.pointer (some ⟨q, 0, none⟩), pv a n, mv m] u fun e w' => e = .returned (.bool (f.feas a n m)) ∧ Below u.heap.size u w' := by
  have HM := Lib.hid (fun W (hW : Below u.heap.size u W) => Mark_any W q f c (h.below hW) a n ha hn)
  obtain ⟨x, hx, hx2⟩ := look_form f a n
  rw [hx] at HM
  clear hx h
  have HX2 := Lib.hid hx2
  clear hx2
  have B1 := Lib.hid (((Below.refl u.heap.size u).alloc (Nat.le_refl _) (.cells #[.int .u32 (a : Int), .int .u8 (n : Int)] 30)).alloc (by simp) (.cells #[.int .u16 (m.1 : Int), .int .u16 (m.2 : Int)] 48))
  have r1 := heap_new1 u (.cells #[.int .u32 (a : Int), .int .u8 (n : Int)] 30) (.cells #[.int .u16 (m.1 : Int), .int .u16 (m.2 : Int)] 48)
  have HR1 := Lib.hid r1
  clear r1
  unfold pv mv Mk.feas at *
  obtain ⟨m1, m2⟩ := m
  simp only at *
  by_cases h5 : m2 = 65535
  · have e5 : ((m2 : Int) == 65535) = true := by simp; omega
    have e6 : decide (m2 = 65535) = true := decide_eq_true h5
    rw [e6, Bool.true_or]
    clear h5 e6
    cases hf : f a n with
    | none =>
      rw [hf] at HM
      clear HX2 hf
      go_enter Tryz.func132, Tryz.ntmps132
      go_wp2_with (first
        | (go_at_call 56; (with_reducible refine (HM.out _ B1.out).mono ?_); rintro e w1 ⟨rfl, B2⟩; have HB := Lib.hid (B1.out.trans (B2.mono B1.out.size)); have HR := Lib.hid ((B2.block _ (Array.getElem?_eq_some_iff.1 HR1.out).1).trans HR1.out); obtain ⟨p0, p1, pf⟩ := row2 HR.out; have hsz : u.heap.size + 1 < w1.heap.size := (Array.getElem?_eq_some_iff.1 HR.out).1; clear B2)
        | (go_at_call 151; (with_reducible refine (nearer_any _ _ _ _ _).mono ?_); rintro e w2 ⟨rfl, B3⟩; have HN := Lib.hid ((HB.out.alloc HB.out.size _).trans (B3.mono (by have := HB.out.size; simp; omega))); clear B3))
      go_ret
      exact ⟨rfl, HB.out.alloc HB.out.size _⟩
    | some y =>
      obtain rfl := HX2.out y hf
      rw [hf] at HM
      clear HX2 hf
      go_enter Tryz.func132, Tryz.ntmps132
      go_wp2_with (first
        | (go_at_call 56; (with_reducible refine (HM.out _ B1.out).mono ?_); rintro e w1 ⟨rfl, B2⟩; have HB := Lib.hid (B1.out.trans (B2.mono B1.out.size)); have HR := Lib.hid ((B2.block _ (Array.getElem?_eq_some_iff.1 HR1.out).1).trans HR1.out); obtain ⟨p0, p1, pf⟩ := row2 HR.out; have hsz : u.heap.size + 1 < w1.heap.size := (Array.getElem?_eq_some_iff.1 HR.out).1; clear B2)
        | (go_at_call 151; (with_reducible refine (nearer_any _ _ _ _ _).mono ?_); rintro e w2 ⟨rfl, B3⟩; have HN := Lib.hid ((HB.out.alloc HB.out.size _).trans (B3.mono (by have := HB.out.size; simp; omega))); clear B3))
      go_ret
      exact ⟨rfl, HB.out.alloc HB.out.size _⟩
  · have e5 : ((m2 : Int) == 65535) = false := by simp; omega
    have e6 : decide (m2 = 65535) = false := decide_eq_false h5
    rw [e6, Bool.false_or]
    clear h5 e6
    cases hf : f a n with
    | none =>
      rw [hf] at HM
      clear HX2 hf
      go_enter Tryz.func132, Tryz.ntmps132
      go_wp2_with (first
        | (go_at_call 56; (with_reducible refine (HM.out _ B1.out).mono ?_); rintro e w1 ⟨rfl, B2⟩; have HB := Lib.hid (B1.out.trans (B2.mono B1.out.size)); have HR := Lib.hid ((B2.block _ (Array.getElem?_eq_some_iff.1 HR1.out).1).trans HR1.out); obtain ⟨p0, p1, pf⟩ := row2 HR.out; have hsz : u.heap.size + 1 < w1.heap.size := (Array.getElem?_eq_some_iff.1 HR.out).1; clear B2)
        | (go_at_call 151; (with_reducible refine (nearer_any _ _ _ _ _).mono ?_); rintro e w2 ⟨rfl, B3⟩; have HN := Lib.hid ((HB.out.alloc HB.out.size _).trans (B3.mono (by have := HB.out.size; simp; omega))); clear B3))
      go_ret
      exact ⟨rfl, HB.out.alloc HB.out.size _⟩
    | some y =>
      obtain rfl := HX2.out y hf
      rw [hf] at HM
      clear HX2 hf
      go_enter Tryz.func132, Tryz.ntmps132
      go_wp2_with (first
        | (go_at_call 56; (with_reducible refine (HM.out _ B1.out).mono ?_); rintro e w1 ⟨rfl, B2⟩; have HB := Lib.hid (B1.out.trans (B2.mono B1.out.size)); have HR := Lib.hid ((B2.block _ (Array.getElem?_eq_some_iff.1 HR1.out).1).trans HR1.out); obtain ⟨p0, p1, pf⟩ := row2 HR.out; have hsz : u.heap.size + 1 < w1.heap.size := (Array.getElem?_eq_some_iff.1 HR.out).1; clear B2)
        | (go_at_call 151; (with_reducible refine (nearer_any _ _ _ _ _).mono ?_); rintro e w2 ⟨rfl, B3⟩; have HN := Lib.hid ((HB.out.alloc HB.out.size _).trans (B3.mono (by have := HB.out.size; simp; omega))); clear B3))
      go_ret
      exact ⟨rfl, HN.out⟩
end Go.Proofs.YtjbogjbopgcbhaaGreatDoor.Src
namespace Go.Proofs.YtjbogjbopgcbhaaGreatDoor.Src
open Pre Ser
open Go.ChangeShapes Go.WideShapes Go.ChangeAt Go.RowKit
set_option maxRecDepth 8000
variable {lo : Nat}
structure LB (lo : Nat) (u w : World) (q a n : Nat) (m : Nat × Nat) (f : Mk) (c : Nat) : Prop where
  b : Below u.heap.size u w
  s : SrcAt lo w q f c
  r0 : w.heap[u.heap.size]? = some (.cells #[.int .u32 (a : Int), .int .u8 (n : Int)] 30 (0, 0))
  r1 : w.heap[u.heap.size + 1]? = some (.cells #[.int .u16 (m.1 : Int), .int .u16 (m.2 : Int)] 48 (0, 0))
theorem LB.step {u w w' : World} {q a n : Nat} {m : Nat × Nat} {f : Mk} {c : Nat} (h : LB lo u w q a n m f c) (B : Below w.heap.size w w') : LB lo u w' q a n m f c :=
  ⟨h.b.trans (B.mono h.b.size), h.s.below B, (B.block _ (Array.getElem?_eq_some_iff.1 h.r0).1).trans h.r0, (B.block _ (Array.getElem?_eq_some_iff.1 h.r1).1).trans h.r1⟩
theorem LB.start {u : World} {q a n : Nat} {m1 m2 : Nat} {f : Mk} {c : Nat} (h : SrcAt lo u q f c) : LB lo u ((u.alloc (.cells #[.int .u32 (a : Int), .int .u8 (n : Int)] 30)).alloc (.cells #[.int .u16 (m1 : Int), .int .u16 (m2 : Int)] 48)) q a n (m1, m2) f c := by
  have B1 := ((Below.refl u.heap.size u).alloc (Nat.le_refl _) (.cells #[.int .u32 (a : Int), .int .u8 (n : Int)] 30)).alloc (by simp) (.cells #[.int .u16 (m1 : Int), .int .u16 (m2 : Int)] 48)
  exact ⟨B1, h.below B1, (heap_alloc_old _ (.cells #[.int .u16 (m1 : Int), .int .u16 (m2 : Int)] 48) (by simp)).trans (heap_alloc_new u (.cells #[.int .u32 (a : Int), .int .u8 (n : Int)] 30)), heap_new1 u (.cells #[.int .u32 (a : Int), .int .u8 (n : Int)] 30) (.cells #[.int .u16 (m1 : Int), .int .u16 (m2 : Int)] 48)⟩
theorem LB.set {u w : World} {q a n : Nat} {m : Nat × Nat} {f : Mk} {c : Nat} (h : LB lo u w q a n m f c) (y0 y1 : Nat) : LB lo u ((w.setCell ⟨u.heap.size + 1, 0, none⟩ (.int .u16 (y0 : Int))).setCell ⟨u.heap.size + 1, 1, none⟩ (.int .u16 (y1 : Int))) q a n (y0, y1) f c := by
  have G1 := set_grown w ⟨u.heap.size + 1, 0, none⟩ (.int .u16 (y0 : Int))
  have G2 := set_grown (w.setCell ⟨u.heap.size + 1, 0, none⟩ (.int .u16 (y0 : Int))) ⟨u.heap.size + 1, 1, none⟩ (.int .u16 (y1 : Int))
  have e1 := heap_setCell_same w (u.heap.size + 1) 0 _ 48 (.int .u16 (y0 : Int)) h.r1
  refine ⟨(h.b.setCell (p := ⟨u.heap.size + 1, 0, none⟩) (by show u.heap.size ≤ u.heap.size + 1; omega) _).setCell (p := ⟨u.heap.size + 1, 1, none⟩) (by show u.heap.size ≤ u.heap.size + 1; omega) _, (h.s.kept G1 h.r1 (by decide)).kept G2 e1 (by decide), (set2_other w (by omega) _ _).trans h.r0, Tab_set2 h.r1 _ _⟩
set_option maxHeartbeats 1000000 in
theorem Lower_any (u : World) (q : Nat) (f : Mk) (c : Nat) (h : SrcAt lo u q f c) (hlu : lo ≤ u.heap.size) (a n : Nat) (ha : a < 4294967296) (hn : n < 256) (hr : Pre.right a n = true) (m1 m2 : Nat) (hm : m2 < 65535) (hc : c < 256) :
    Calls Tryz.prog 87 #[.pointer (some ⟨q, 0, none⟩), pv a n, mv (m1, m2)] u fun e w' => e = .returned (.int .i64 0) ∧ SrcAt lo w' q (f.put a n (f.best a n (m1, m2))) (if (f a n).isSome then c else c + 1) ∧ K lo u w' := by
  obtain ⟨c', hc'⟩ : ∃ c', c' = if (f a n).isSome then c else c + 1 := ⟨_, rfl⟩
  rw [← hc']
  obtain ⟨b1, b2, hb⟩ : ∃ b1 b2, f.best a n (m1, m2) = (b1, b2) := ⟨_, _, rfl⟩
  rw [hb]
  have HC := Lib.hid hc'
  have HBE := Lib.hid hb
  clear hc' hb
  have HM := Lib.hid (fun W => Pre.right_any a n ha (by omega) W)
  rw [hr] at HM
  obtain ⟨x, hx, hx2⟩ := look_form f a n
  have HK : Hid (∀ W, SrcAt lo W q f c → Calls Tryz.prog 56 #[.pointer (some ⟨q, 0, none⟩), .agg #[.int .u32 (a : Int), .int .u8 (n : Int)]] W fun e w' => e = .returned (.tuple #[.agg #[.int .u16 (x.1 : Int), .int .u16 (x.2 : Int)], .bool (f a n).isSome]) ∧ Below W.heap.size W w') := Lib.hid fun W hW => hx ▸ Mark_any W q f c hW a n ha hn
  have HS : Hid (∀ W, SrcAt lo W q f c → lo ≤ W.heap.size → ∀ m1 m2 : Nat, Calls Tryz.prog 129 #[.pointer (some ⟨q, 0, none⟩), .agg #[.int .u32 (a : Int), .int .u8 (n : Int)], .agg #[.int .u16 (m1 : Int), .int .u16 (m2 : Int)]] W fun e w' => e = .returned (.tuple #[]) ∧ SrcAt lo w' q (f.put a n (m1, m2)) c' ∧ K lo W w') := Lib.hid fun W hW hl m1 m2 => HC.out ▸ set_any W q f c hW hl a n ha hn (m1, m2) (by omega)
  have L0 := Lib.hid (LB.start (a := a) (n := n) (m1 := m1) (m2 := m2) h)
  have e5 : ((m2 : Int) == 65535) = false := by simp; omega
  have HX2 := Lib.hid hx2
  have HLU := Lib.hid hlu
  have HQ := Lib.hid h
  clear hx hx2 hr hlu h
  unfold pv mv
  simp only
  cases hf : f a n with
  | none =>
    rw [hf] at HK
    have e7 : decide (256 ≤ (c : Int)) = false := by simp; omega
    have e8 : (b1, b2) = (m1, m2) := by rw [← HBE.out]; unfold Mk.best; rw [hf]
    obtain ⟨rfl, rfl⟩ : b1 = m1 ∧ b2 = m2 := by injection e8 with e1 e2; exact ⟨e1, e2⟩
    clear HX2 HBE e8 hf hc hm
    go_enter Tryz.func87, Tryz.ntmps87
    go_wp2_with (first
      | (go_at_call 73; (with_reducible refine (HM.out _).mono ?_); rintro e w1 ⟨rfl, B2⟩; have L1 := Lib.hid (L0.out.step B2); clear B2; obtain ⟨p0, p1, pf⟩ := row2 L1.out.r1; obtain ⟨t0, t1, -⟩ := row2 L1.out.r0; have hsz : u.heap.size + 1 < w1.heap.size := (Array.getElem?_eq_some_iff.1 L1.out.r1).1)
      | (go_at_call 56; (with_reducible refine (HK.out _ L1.out.s).mono ?_); rintro e w2 ⟨rfl, B3⟩; have L2 := Lib.hid ((L1.out.step B3).step ((Below.refl _ _).alloc (Nat.le_refl _) (.cells #[.int .u16 (x.1 : Int), .int .u16 (x.2 : Int)] 48))); have hsz2 := Nat.lt_of_lt_of_le hsz B3.size; clear B3 p0 p1 pf t0 t1; obtain ⟨p0, p1, pf⟩ := row2 L2.out.r1; obtain ⟨t0, t1, -⟩ := row2 L2.out.r0; obtain ⟨s0, s1, sf⟩ := row2 (heap_alloc_new w2 (.cells #[.int .u16 (x.1 : Int), .int .u16 (x.2 : Int)] 48)))
      | (go_at_call 127; (with_reducible refine (Len_any _ q f c L2.out.s).mono ?_); rintro e w3 ⟨rfl, rfl⟩)
      | (go_at_call 129; (with_reducible refine (HS.out _ L2.out.s (Nat.le_trans HLU.out L2.out.b.size) b1 b2).mono ?_); rintro e w5 ⟨rfl, S5, K5⟩; have H5 := Lib.hid (And.intro S5 ((K.of L2.out.b HLU.out).trans K5)); clear S5 K5))
    go_ret
    exact ⟨rfl, H5.out⟩
  | some y =>
    obtain rfl := HX2.out y hf
    rw [hf] at HK
    cases hnr : nearer (m1 : Int) (m2 : Int) (x.1 : Int) (x.2 : Int) with
    | true =>
      have e8 : (b1, b2) = (m1, m2) := by rw [← HBE.out]; unfold Mk.best; rw [hf]; simp [hnr]
      obtain ⟨rfl, rfl⟩ : b1 = m1 ∧ b2 = m2 := by injection e8 with e1 e2; exact ⟨e1, e2⟩
      clear HX2 HBE e8 hf hc hm
      go_enter Tryz.func87, Tryz.ntmps87
      go_wp2_with (first
        | (go_at_call 73; (with_reducible refine (HM.out _).mono ?_); rintro e w1 ⟨rfl, B2⟩; have L1 := Lib.hid (L0.out.step B2); clear B2; obtain ⟨p0, p1, pf⟩ := row2 L1.out.r1; obtain ⟨t0, t1, -⟩ := row2 L1.out.r0; have hsz : u.heap.size + 1 < w1.heap.size := (Array.getElem?_eq_some_iff.1 L1.out.r1).1)
        | (go_at_call 56; (with_reducible refine (HK.out _ L1.out.s).mono ?_); rintro e w2 ⟨rfl, B3⟩; have L2 := Lib.hid ((L1.out.step B3).step ((Below.refl _ _).alloc (Nat.le_refl _) (.cells #[.int .u16 (x.1 : Int), .int .u16 (x.2 : Int)] 48))); have hsz2 := Nat.lt_of_lt_of_le hsz B3.size; clear B3 p0 p1 pf t0 t1; obtain ⟨p0, p1, pf⟩ := row2 L2.out.r1; obtain ⟨t0, t1, -⟩ := row2 L2.out.r0; obtain ⟨s0, s1, sf⟩ := row2 (heap_alloc_new w2 (.cells #[.int .u16 (x.1 : Int), .int .u16 (x.2 : Int)] 48)))
        | (go_at_call 127; (with_reducible refine (Len_any _ q f c L2.out.s).mono ?_); rintro e w3 ⟨rfl, rfl⟩)
        | (go_at_call 128; (with_reducible refine (best_yes _ _ _ _ hnr _).mono ?_); rintro e w4 ⟨rfl, B4⟩; have L4 := Lib.hid ((L2.out.step B4).set b1 b2); have L3 := Lib.hid (L2.out.step B4); clear B4 p0 p1 pf t0 t1 s0 s1 sf; obtain ⟨p0, p1, pf⟩ := row2 L3.out.r1; obtain ⟨t0, t1, -⟩ := row2 L3.out.r0; obtain ⟨c0, c1, -⟩ := row2 L4.out.r1; obtain ⟨d0, d1, -⟩ := row2 L4.out.r0; have hsz4 : u.heap.size + 1 < w4.heap.size := (Array.getElem?_eq_some_iff.1 L3.out.r1).1)
        | (go_at_call 129; (with_reducible refine (HS.out _ L4.out.s (Nat.le_trans HLU.out L4.out.b.size) b1 b2).mono ?_); rintro e w5 ⟨rfl, S5, K5⟩; have H5 := Lib.hid (And.intro S5 ((K.of L4.out.b HLU.out).trans K5)); clear S5 K5))
      go_ret
      exact ⟨rfl, H5.out⟩
    | false =>
      have e8 : (b1, b2) = x := by rw [← HBE.out]; unfold Mk.best; rw [hf]; simp [hnr]
      subst e8
      clear HX2 HBE hf hc hm
      go_enter Tryz.func87, Tryz.ntmps87
      go_wp2_with (first
        | (go_at_call 73; (with_reducible refine (HM.out _).mono ?_); rintro e w1 ⟨rfl, B2⟩; have L1 := Lib.hid (L0.out.step B2); clear B2; obtain ⟨p0, p1, pf⟩ := row2 L1.out.r1; obtain ⟨t0, t1, -⟩ := row2 L1.out.r0; have hsz : u.heap.size + 1 < w1.heap.size := (Array.getElem?_eq_some_iff.1 L1.out.r1).1)
        | (go_at_call 56; (with_reducible refine (HK.out _ L1.out.s).mono ?_); rintro e w2 ⟨rfl, B3⟩; have L2 := Lib.hid ((L1.out.step B3).step ((Below.refl _ _).alloc (Nat.le_refl _) (.cells #[.int .u16 (b1 : Int), .int .u16 (b2 : Int)] 48))); have hsz2 := Nat.lt_of_lt_of_le hsz B3.size; clear B3 p0 p1 pf t0 t1; obtain ⟨p0, p1, pf⟩ := row2 L2.out.r1; obtain ⟨t0, t1, -⟩ := row2 L2.out.r0; obtain ⟨s0, s1, sf⟩ := row2 (heap_alloc_new w2 (.cells #[.int .u16 (b1 : Int), .int .u16 (b2 : Int)] 48)))
        | (go_at_call 127; (with_reducible refine (Len_any _ q f c L2.out.s).mono ?_); rintro e w3 ⟨rfl, rfl⟩)
        | (go_at_call 128; (with_reducible refine (best_no _ _ _ _ hnr _).mono ?_); rintro e w4 ⟨rfl, B4⟩; have L4 := Lib.hid ((L2.out.step B4).set b1 b2); have L3 := Lib.hid (L2.out.step B4); clear B4 p0 p1 pf t0 t1 s0 s1 sf; obtain ⟨p0, p1, pf⟩ := row2 L3.out.r1; obtain ⟨t0, t1, -⟩ := row2 L3.out.r0; obtain ⟨c0, c1, -⟩ := row2 L4.out.r1; obtain ⟨d0, d1, -⟩ := row2 L4.out.r0; have hsz4 : u.heap.size + 1 < w4.heap.size := (Array.getElem?_eq_some_iff.1 L3.out.r1).1)
        | (go_at_call 129; (with_reducible refine (HS.out _ L4.out.s (Nat.le_trans HLU.out L4.out.b.size) b1 b2).mono ?_); rintro e w5 ⟨rfl, S5, K5⟩; have H5 := Lib.hid (And.intro S5 ((K.of L4.out.b HLU.out).trans K5)); clear S5 K5))
      go_ret
      exact ⟨rfl, H5.out⟩
end Go.Proofs.YtjbogjbopgcbhaaGreatDoor.Src
