/- Common's contract, and what it comes to. -/
import Derived.Test.YtdfphpoakihkdaaDoorAw
import Derived.Lib.ItoaNum
import Derived.WalkLawsBesides
namespace Go.Proofs.YtdfphpoakihkdaaDoor.Pre
open Go.ChangeShapes Go.WideShapes Go.ChangeAt Go.RowKit Go.Sort

def zeros (p q : Nat) : Nat := 32 - Lib.bitLen (p ^^^ q)
def comm (p m q n : Nat) : Nat := min (min (zeros p q) m) n

theorem common_any (p m q n : Nat) (hp : p < 4294967296) (_hm : m ≤ 32) (hq : q < 4294967296) (_hn : n ≤ 32) (w : World) :
    Calls Tryd.prog 21 #[.agg #[.int .u32 p, .int .u8 m], .agg #[.int .u32 q, .int .u8 n]] w fun e w' => e = .returned (.int .u8 (comm p m q n : Nat)) ∧ Below w.heap.size w w' := by
  have hxl : p ^^^ q < 4294967296 := Nat.xor_lt_two_pow (n := 32) (by omega) (by omega)
  have hx : bits .xor .u32 (p : Int) (q : Int) = ((p ^^^ q : Nat) : Int) := u32_xor_nat p q hp hq
  have hbl : Lib.bitLen (p ^^^ q) ≤ 32 := Lib.bitLen_le _ 32 (by decide) (by omega)
  have hz : (32 : Int) - ((Lib.bitLen (p ^^^ q) : Nat) : Int) = ((zeros p q : Nat) : Int) := by unfold zeros; omega
  have hz2 : zeros p q ≤ 32 := by unfold zeros; omega
  have hlz := fun w => Tryd.bits_LeadingZeros32 ((p ^^^ q : Nat) : Int) w (by omega) (by omega)
  simp only [Int.toNat_natCast] at hlz
  simp only [hz] at hlz
  have hc : ((comm p m q n : Nat) : Int) = min (min ((zeros p q : Nat) : Int) m) n := by unfold comm; omega
  have HC := Lib.hid hc
  clear hc hz hbl
  generalize zeros p q = z at *
  generalize p ^^^ q = x at *
  go_enter Tryd.func21, Tryd.ntmps21
  go_wp2_with (go_at_call 30; refine (hlz _).mono ?_; rintro e w1 ⟨rfl, rfl⟩)
  all_goals (go_ret; refine ⟨ret_int ?_, ((Below.refl _ _).alloc (Nat.le_refl _) _).alloc (by simp) _⟩; rw [HC.out]; clear HC hlz; first | omega | (repeat' split at * <;> omega))

theorem zeros_ge (p q k : Nat) (hp : p < 4294967296) (hq : q < 4294967296) (hk : k ≤ 32) : k ≤ zeros p q ↔ p / 2 ^ (32 - k) = q / 2 ^ (32 - k) := by
  have hxl : p ^^^ q < 2 ^ 32 := Nat.xor_lt_two_pow (by simpa using hp) (by simpa using hq)
  rw [← xor_alike p q (32 - k)]
  unfold zeros
  have hbl : Lib.bitLen (p ^^^ q) ≤ 32 := Lib.bitLen_le _ 32 (by decide) hxl
  generalize p ^^^ q = x at *
  have hpos := Nat.two_pow_pos (32 - k)
  constructor
  · intro h
    have h1 : Lib.bitLen x ≤ 32 - k := by omega
    have h2 : x < 2 ^ (32 - k) := by
      by_cases h0 : x = 0
      · rw [h0]; exact hpos
      · have := (Lib.bitLenAux_bounds 64 x (Nat.lt_of_lt_of_le hxl (by decide)) h0).2.2
        exact Nat.lt_of_lt_of_le this (Nat.pow_le_pow_right (by decide) h1)
    rw [Nat.div_eq_of_lt h2, Nat.zero_mul]
  · intro h
    have h1 : x / 2 ^ (32 - k) = 0 := by
      rcases Nat.mul_eq_zero.1 h with h | h
      · exact h
      · omega
    have h2 : x < 2 ^ (32 - k) := by
      rcases Nat.lt_or_ge x (2 ^ (32 - k)) with h3 | h3
      · exact h3
      · have := Nat.div_pos h3 hpos; omega
    have := Lib.bitLen_le x (32 - k) (by omega) h2
    omega

theorem zeros_comm (p q : Nat) : zeros p q = zeros q p := by unfold zeros; rw [Nat.xor_comm]

theorem comm_eq (p m q n k : Nat) (hp : p < 4294967296) (hq : q < 4294967296) (hm : m ≤ 32) (_hn : n ≤ 32) (hkm : k ≤ m) (hkn : k ≤ n)
    (h : p / 2 ^ (32 - k) = q / 2 ^ (32 - k)) (he : k = m ∨ k = n ∨ bit p k ≠ bit q k) : comm p m q n = k := by
  have h1 := (zeros_ge p q k hp hq (by omega)).2 h
  unfold comm
  rcases he with rfl | rfl | he
  · omega
  · omega
  · by_cases hk : k < 32
    · have h2 : ¬ k + 1 ≤ zeros p q := fun h3 => he ((alike_step p q k hk h).1 ((zeros_ge p q (k + 1) hp hq (by omega)).1 h3))
      omega
    · omega
theorem comm_swap (p m q n : Nat) : comm p m q n = comm q n p m := by unfold comm; rw [zeros_comm]; omega

theorem rbit_same (a i : Nat) (ha : a < 4294967296) (hi : i ≤ 255) (w : World) :
    Calls Tryd.prog 20 #[.int .u32 a, .int .i64 i] w fun e w' => e = .returned (.bool (bit a i)) ∧ w' = w := (rbit_any a i ha hi w).mono fun _ _ ⟨a, b⟩ => ⟨a, b.symm⟩
end Go.Proofs.YtdfphpoakihkdaaDoor.Pre
