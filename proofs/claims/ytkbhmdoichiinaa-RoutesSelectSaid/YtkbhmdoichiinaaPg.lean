/- Contracts of package prefix that a trie calls. -/
import Derived.Test.YtkbhmdoichiinaaPFns
import Derived.Lib.ItoaNum
import Derived.WalkLawsBesides
namespace Go.Proofs.Ytkbhmdoichiinaa.Pre
open Go.ChangeShapes Go.WideShapes Go.ChangeAt Go.RowKit

def within (p m q n : Nat) : Bool := decide (n ≤ m) && alike q p n

theorem ahead_any (p m q n : Nat) (w : World) :
    Calls Try.prog 13 #[.agg #[.int .u32 p, .int .u8 m], .agg #[.int .u32 q, .int .u8 n]] w fun e w' => e = .returned (.bool (decide (p < q) || (p == q && decide (m < n)))) ∧ Below w.heap.size w w' := by
  rcases Nat.lt_trichotomy p q with h | h | h
  · go_enter Try.func13, Try.ntmps13
    go_wp2
    go_ret
    exact ⟨ret_bool (by simp [h]), ((Below.refl _ _).alloc (Nat.le_refl _) _).alloc (by simp) _⟩
  · subst h
    go_enter Try.func13, Try.ntmps13
    go_wp2
    go_ret
    exact ⟨ret_bool (by simp), ((Below.refl _ _).alloc (Nat.le_refl _) _).alloc (by simp) _⟩
  · have h2 : ¬ p < q := by omega
    have h3 : ((p : Int) == q) = false := by simp; omega
    have h4 : (p == q) = false := by simp; omega
    go_enter Try.func13, Try.ntmps13
    go_wp2
    go_ret
    exact ⟨ret_bool (by simp [h2, h4]), ((Below.refl _ _).alloc (Nat.le_refl _) _).alloc (by simp) _⟩

def zeros (p q : Nat) : Nat := 32 - Lib.bitLen (p ^^^ q)
def comm (p m q n : Nat) : Nat := min (min (zeros p q) m) n

theorem zeros_ge (p q k : Nat) (hp : p < 4294967296) (hq : q < 4294967296) (hk : k ≤ 32) : k ≤ zeros p q ↔ p / 2 ^ (32 - k) = q / 2 ^ (32 - k) := by
  have hxl : p ^^^ q < 2 ^ 32 := Nat.xor_lt_two_pow (by simpa using hp) (by simpa using hq)
  rw [← xor_alike p q (32 - k)]
  unfold zeros
  have hbl : Lib.bitLen (p ^^^ q) ≤ 32 := Lib.bitLen_le _ 32 (by decide) hxl
  generalize p ^^^ q = x at *
  have hpos := Nat.two_pow_pos (32 - k)
  constructor
  · intro h
    have h1 : Lib.bitLen x ≤ 32 - k := by omega
    have h2 : x < 2 ^ (32 - k) := by
      by_cases h0 : x = 0
      · rw [h0]; exact hpos
      · have := (Lib.bitLenAux_bounds 64 x (Nat.lt_of_lt_of_le hxl (by decide)) h0).2.2
        exact Nat.lt_of_lt_of_le this (Nat.pow_le_pow_right (by decide) h1)
    rw [Nat.div_eq_of_lt h2, Nat.zero_mul]
  · intro h
    have h1 : x / 2 ^ (32 - k) = 0 := by
      rcases Nat.mul_eq_zero.1 h with h | h
      · exact h
      · omega
    have h2 : x < 2 ^ (32 - k) := by
      rcases Nat.lt_or_ge x (2 ^ (32 - k)) with h3 | h3
      · exact h3
      · have := Nat.div_pos h3 hpos; omega
    have := Lib.bitLen_le x (32 - k) (by omega) h2
    omega

theorem zeros_comm (p q : Nat) : zeros p q = zeros q p := by unfold zeros; rw [Nat.xor_comm]
end Go.Proofs.Ytkbhmdoichiinaa.Pre
