/- Plain facts on the first bits of numbers below 2^32: no Go in sight. -/
namespace Go.Proofs.Ytkbhmdoichiinaa.Pre

/-- How many bits are left behind the first n. -/
def rest (n : Nat) : Nat := 32 - min n 32
/-- The first n bits, noughts behind them. -/
def top (a n : Nat) : Nat := a / 2 ^ rest n * 2 ^ rest n
def len (n : Nat) : Nat := min n 32
/-- Bit i, the highest one 0. -/
def bit (a i : Nat) : Bool := a / 2 ^ (31 - i) % 2 == 1
/-- Have two their first n bits alike? -/
def alike (a b n : Nat) : Bool := a / 2 ^ rest n == b / 2 ^ rest n
def right (a n : Nat) : Bool := decide (n ≤ 32) && (a % 2 ^ rest n == 0)

theorem len_le (n : Nat) : len n ≤ 32 := Nat.min_le_right _ _
theorem rest_len (n : Nat) : rest (len n) = rest n := by unfold rest len; omega
theorem rest_le (n : Nat) : rest n ≤ 32 := by unfold rest; omega
theorem top_le (a n : Nat) : top a n ≤ a := Nat.div_mul_le_self _ _
theorem top_lt {a n : Nat} (h : a < 4294967296) : top a n < 4294967296 := Nat.lt_of_le_of_lt (top_le a n) h

theorem ones_div (n : Nat) : 4294967295 / 2 ^ min n 32 = 2 ^ rest n - 1 := by
  unfold rest
  have h : min n 32 ≤ 32 := Nat.min_le_right _ _
  generalize min n 32 = k at h
  exact (show ∀ k, k ≤ 32 → 4294967295 / 2 ^ k = 2 ^ (32 - k) - 1 by decide +kernel) k h

theorem pow_rest_le (n : Nat) : 2 ^ rest n ≤ 4294967296 := by
  have := Nat.pow_le_pow_right (n := 2) (by decide) (rest_le n)
  simpa using this

theorem and_top (a s : Nat) (ha : a < 2 ^ 32) (hs : s ≤ 32) : a &&& (2 ^ 32 - 1 - (2 ^ s - 1)) = a / 2 ^ s * 2 ^ s := by
  apply Nat.eq_of_testBit_eq
  intro i
  rw [← Nat.shiftLeft_eq, ← Nat.shiftRight_eq_div_pow, Nat.testBit_and, Nat.testBit_shiftLeft, Nat.testBit_shiftRight]
  have h1 : 2 ^ s - 1 < 2 ^ 32 := Nat.lt_of_lt_of_le (Nat.sub_lt (Nat.two_pow_pos s) (by decide)) (Nat.pow_le_pow_right (by decide) hs)
  have h2 : 2 ^ 32 - 1 - (2 ^ s - 1) = 2 ^ 32 - ((2 ^ s - 1) + 1) := by omega
  rw [h2, Nat.testBit_two_pow_sub_succ h1, Nat.testBit_two_pow_sub_one]
  by_cases h : s ≤ i
  · have e : s + (i - s) = i := by omega
    by_cases h3 : i < 32
    · simp [h, h3, e]
    · have : a.testBit i = false := Nat.testBit_lt_two_pow (Nat.lt_of_lt_of_le ha (Nat.pow_le_pow_right (by decide) (by omega)))
      simp [this, e]
  · simp [h]; omega

theorem and_low (a s : Nat) : a &&& (2 ^ s - 1) = a % 2 ^ s := Nat.and_two_pow_sub_one_eq_mod a s

theorem xor_ones (x : Nat) (hx : x < 2 ^ 32) : 4294967295 ^^^ x = 4294967295 - x := by
  apply Nat.eq_of_testBit_eq
  intro i
  rw [show (4294967295 : Nat) = 2 ^ 32 - 1 from rfl, Nat.testBit_xor, Nat.testBit_two_pow_sub_one]
  rw [show 2 ^ 32 - 1 - x = 2 ^ 32 - (x + 1) by omega, Nat.testBit_two_pow_sub_succ hx]
  by_cases h3 : i < 32
  · simp [h3]
  · have : x.testBit i = false := Nat.testBit_lt_two_pow (Nat.lt_of_lt_of_le hx (Nat.pow_le_pow_right (by decide) (by omega)))
    simp [h3, this]

theorem xor_alike (a b s : Nat) : (a ^^^ b) / 2 ^ s * 2 ^ s = 0 ↔ a / 2 ^ s = b / 2 ^ s := by
  rw [← Nat.shiftRight_eq_div_pow, ← Nat.shiftRight_eq_div_pow, ← Nat.shiftRight_eq_div_pow, Nat.shiftRight_xor_distrib]
  constructor
  · intro h
    rcases Nat.mul_eq_zero.1 h with h | h
    · exact Nat.eq_of_testBit_eq fun i => by
        have := congrArg (Nat.testBit · i) h
        simp only [Nat.testBit_xor, Nat.zero_testBit] at this
        simpa using this
    · have := Nat.two_pow_pos s; omega
  · intro h; rw [h, Nat.xor_self, Nat.zero_mul]

/-- A number, one bit further. -/
theorem step_div (a i : Nat) (hi : i < 32) : a / 2 ^ (32 - (i + 1)) = 2 * (a / 2 ^ (32 - i)) + (if bit a i then 1 else 0) := by
  have e : 32 - i = 31 - i + 1 := by omega
  have e2 : 32 - (i + 1) = 31 - i := by omega
  rw [e, e2, Nat.pow_succ, ← Nat.div_div_eq_div_mul]
  unfold bit
  generalize a / 2 ^ (31 - i) = x
  by_cases h : x % 2 = 1
  · simp [h]; omega
  · simp [h]; omega

theorem mod_step (a i : Nat) (hi : i < 32) : a % 2 ^ (32 - i) = 0 ↔ bit a i = false ∧ a % 2 ^ (32 - (i + 1)) = 0 := by
  have e : 32 - i = 31 - i + 1 := by omega
  have e2 : 32 - (i + 1) = 31 - i := by omega
  rw [e, e2, Nat.mod_pow_succ]
  unfold bit
  have hp := Nat.two_pow_pos (31 - i)
  have hx : a / 2 ^ (31 - i) % 2 < 2 := Nat.mod_lt _ (by decide)
  generalize a / 2 ^ (31 - i) % 2 = x at hx ⊢
  constructor
  · intro h
    have h1 : a % 2 ^ (31 - i) = 0 := by omega
    have h2 : 2 ^ (31 - i) * x = 0 := by omega
    have h3 : x = 0 := by
      rcases Nat.mul_eq_zero.1 h2 with h4 | h4
      · omega
      · exact h4
    exact ⟨by simp [h3], h1⟩
  · rintro ⟨h1, h2⟩
    have h3 : x ≠ 1 := by simpa using h1
    have h4 : x = 0 := by omega
    rw [h4, h2]; rfl

theorem alike_step (a b i : Nat) (hi : i < 32) (h : a / 2 ^ (32 - i) = b / 2 ^ (32 - i)) : a / 2 ^ (32 - (i + 1)) = b / 2 ^ (32 - (i + 1)) ↔ bit a i = bit b i := by
  rw [step_div a i hi, step_div b i hi, h]
  cases bit a i <;> cases bit b i <;> simp

theorem alike_down (a b i n : Nat) (hin : i ≤ n) (hn : n ≤ 32) (h : a / 2 ^ (32 - n) = b / 2 ^ (32 - n)) : a / 2 ^ (32 - i) = b / 2 ^ (32 - i) := by
  have e : 32 - i = (32 - n) + (n - i) := by omega
  rw [e, Nat.pow_add, ← Nat.div_div_eq_div_mul, ← Nat.div_div_eq_div_mul, h]

theorem mod_up (a i n : Nat) (hin : n ≤ i) (h : a % 2 ^ (32 - n) = 0) : a % 2 ^ (32 - i) = 0 := by
  have e : 32 - n = (32 - i) + (i - n) ∨ 32 - i = 0 := by omega
  rcases e with e | e
  · rw [e, Nat.pow_add] at h
    exact Nat.mod_eq_zero_of_dvd (Nat.dvd_trans (Nat.dvd_mul_right _ _) (Nat.dvd_of_mod_eq_zero h))
  · rw [e]; simp [Nat.mod_one]

theorem top_div (a n : Nat) : top a n / 2 ^ rest n = a / 2 ^ rest n := Nat.mul_div_cancel _ (Nat.two_pow_pos _)
theorem top_mod (a n : Nat) : top a n % 2 ^ rest n = 0 := Nat.mul_mod_left _ _

/-- What the document's Of has made behind k rounds, of L bits. -/
def part (a L k : Nat) : Nat := a / 2 ^ (32 - min k L) * 2 ^ (k - min k L)
theorem part_zero (a L : Nat) (ha : a < 4294967296) : part a L 0 = 0 := by
  unfold part
  rw [Nat.zero_min, Nat.div_eq_of_lt (by simpa using ha)]
theorem part_in (a L k : Nat) (hk : k < 32) (h : k < L) : part a L (k + 1) = 2 * part a L k + (if bit a k then 1 else 0) := by
  unfold part
  rw [show min (k + 1) L = k + 1 by omega, show min k L = k by omega, step_div a k hk]; simp
theorem part_out (a L k : Nat) (h : L ≤ k) : part a L (k + 1) = 2 * part a L k := by
  unfold part
  rw [show min (k + 1) L = L by omega, show min k L = L by omega, show k + 1 - L = k - L + 1 by omega, Nat.pow_succ, ← Nat.mul_assoc, Nat.mul_comm]
theorem part_lt (a L k : Nat) (ha : a < 4294967296) (hk : k < 32) : part a L k < 2147483648 := by
  unfold part
  have h1 : a / 2 ^ (32 - min k L) < 2 ^ min k L := by
    apply Nat.div_lt_of_lt_mul
    rw [← Nat.pow_add, show 32 - min k L + min k L = 32 by omega]; simpa using ha
  calc a / 2 ^ (32 - min k L) * 2 ^ (k - min k L) < 2 ^ min k L * 2 ^ (k - min k L) := Nat.mul_lt_mul_of_pos_right h1 (Nat.two_pow_pos _)
    _ = 2 ^ k := by rw [← Nat.pow_add, show min k L + (k - min k L) = k by omega]
    _ ≤ 2 ^ 31 := Nat.pow_le_pow_right (by decide) (by omega)
    _ = 2147483648 := rfl
theorem part_end (a n : Nat) : part a (len n) 32 = top a n := by
  unfold part top rest len
  rw [show min 32 (min n 32) = min n 32 by omega]

theorem right_top (a n : Nat) : right (top a n) (len n) = true := by
  unfold right
  rw [rest_len, top_mod]; simp [len_le]
end Go.Proofs.Ytkbhmdoichiinaa.Pre
