/- Contracts of package prefix that a trie calls. -/
import Derived.Test.YtfhpcpanjonpeaaPFns
import Derived.Test.YtfhpcpanjonpeaaShelf
import Derived.Lib.ItoaNum
import Derived.WalkLawsBesides
namespace Go.Proofs.Ytfhpcpanjonpeaa.Pre
open Go.ChangeShapes Go.WideShapes Go.ChangeAt Go.RowKit

theorem bit_any (a n : Nat) (ha : a < 4294967296) (hn : n ≤ 255) (w : World) :
    Calls Try.prog 34 #[.int .u32 a, .int .u8 n] w fun e w' => e = .returned (.bool (decide (n < 32) && bit a n)) ∧ w = w' := by
  by_cases h : n < 32
  · have hs : (31 - (n : Int)).toNat = 31 - n := by omega
    have hb : (bits .and .u32 ((a : Int) / 2 ^ (31 - n)) 1 == 1) = bit a n := by
      have e1 : ((a : Int) / 2 ^ (31 - n)) = ((a / 2 ^ (31 - n) : Nat) : Int) := by simp
      have hlt : a / 2 ^ (31 - n) < 4294967296 := Nat.lt_of_le_of_lt (Nat.div_le_self _ _) ha
      rw [e1, show (1 : Int) = ((1 : Nat) : Int) from rfl, u32_and_nat _ _ hlt (by decide), Nat.and_one_is_mod]
      unfold bit
      generalize a / 2 ^ (31 - n) % 2 = x
      rw [Bool.eq_iff_iff]; simp; omega
    go_enter Try.func34, Try.ntmps34
    go_wp2
    go_ret
    exact ⟨ret_bool (by simp [h]), rfl⟩
  · go_enter Try.func34, Try.ntmps34
    go_wp2
    go_ret
    exact ⟨ret_bool (by simp), rfl⟩

theorem has_any (p n b : Nat) (hp : p < 4294967296) (hn : n ≤ 255) (hb : b < 4294967296) (w : World) :
    Calls Try.prog 19 #[.agg #[.int .u32 p, .int .u8 n], .int .u32 b] w fun e w' => e = .returned (.bool (alike p b n)) ∧ Below w.heap.size w w' := by
  have hxl : p ^^^ b < 4294967296 := Nat.xor_lt_two_pow (n := 32) (by omega) (by omega)
  have hx : bits .xor .u32 (p : Int) (b : Int) = ((p ^^^ b : Nat) : Int) := u32_xor_nat p b hp hb
  have hand : bits .and .u32 ((p ^^^ b : Nat) : Int) (msk n : Nat) = ((top (p ^^^ b) n : Nat) : Int) := and_msk_i _ n hxl
  have he : (((top (p ^^^ b) n : Nat) : Int) == 0) = alike p b n := by
    have := xor_alike p b (rest n)
    unfold alike
    show ((((p ^^^ b) / 2 ^ rest n * 2 ^ rest n : Nat) : Int) == 0) = _
    generalize (p ^^^ b) / 2 ^ rest n * 2 ^ rest n = x at this ⊢
    rw [Bool.eq_iff_iff]; simp only [beq_iff_eq]; rw [← this]; omega
  generalize p ^^^ b = x at *
  generalize top x n = y at *
  go_enter Try.func19, Try.ntmps19
  go_wp2
  go_quiet ((go_at_call 28; exact Calls.quiet_of_same (mask_same n hn _)))
  go_wp2
  go_ret
  exact ⟨rfl, ((Below.refl _ _).alloc (Nat.le_refl _) _).trans ⟨rfl, rfl, rfl, Nat.le_refl _, fun _ _ => rfl⟩⟩

def within (p m q n : Nat) : Bool := decide (n ≤ m) && alike q p n

theorem within_any (p m q n : Nat) (hp : p < 4294967296) (_hm : m ≤ 255) (hq : q < 4294967296) (hn : n ≤ 255) (w : World) :
    Calls Try.prog 31 #[.agg #[.int .u32 p, .int .u8 m], .agg #[.int .u32 q, .int .u8 n]] w fun e w' => e = .returned (.bool (within p m q n)) ∧ Below w.heap.size w w' := by
  by_cases h : n ≤ m
  · go_enter Try.func31, Try.ntmps31
    go_wp2_with (go_at_call 19; refine (has_any q n p hq hn hp _).mono ?_; rintro e w1 ⟨rfl, hb⟩)
    go_ret
    exact ⟨ret_bool (by simp [within, h]), bstep (((Below.refl _ _).alloc (Nat.le_refl _) _).alloc (by simp) _) hb⟩
  · go_enter Try.func31, Try.ntmps31
    go_wp2
    go_ret
    exact ⟨ret_bool (by simp [within, h]), ((Below.refl _ _).alloc (Nat.le_refl _) _).alloc (by simp) _⟩

theorem rhas_any (p n b : Nat) (hp : p < 4294967296) (hn : n ≤ 32) (hb : b < 4294967296) (w : World) :
    Calls Try.prog 26 #[.agg #[.int .u32 p, .int .u8 n], .int .u32 b] w fun e w' => e = .returned (.bool (alike p b n)) ∧ Below w.heap.size w w' := by
  have hrest : rest n = 32 - n := by unfold rest; omega
  have HR := Lib.hid hrest
  clear hrest
  go_enter Try.func26, Try.ntmps26
  go_wp2
  go_loop [5] (fun i => ∃ k : Nat, k ≤ n ∧ i = .int .i64 k ∧ Hid (p / 2 ^ (32 - k) = b / 2 ^ (32 - k))) (fun i => 32 - (intOf i).toNat)
  case atStart => exact ⟨0, by omega, rfl, by show _ = _; rw [Nat.div_eq_of_lt (by simpa using hp), Nat.div_eq_of_lt (by simpa using hb)]⟩
  case round =>
    obtain ⟨k, hk, rfl, HA⟩ := hrel
    by_cases hlt : k < n
    · have hst := alike_step p b k (by omega) HA.out
      have HS := Lib.hid hst
      clear hst
      have hdn := fun h => alike_down p b (k + 1) n (by omega) hn h
      have HD := Lib.hid hdn
      clear hdn
      cases h1 : bit p k <;> cases h2 : bit b k
      · go_wp2_with (go_at_call 29; refine (rbit_any _ k (by assumption) (by omega) _).mono ?_; rintro e w' ⟨rfl, rfl⟩)
        go_round
        case rel => exact ⟨k + 1, by omega, by go_num, HS.out.2 (by rw [h1, h2])⟩
        case measure => simp [intOf]; omega
      · go_wp2_with (go_at_call 29; refine (rbit_any _ k (by assumption) (by omega) _).mono ?_; rintro e w' ⟨rfl, rfl⟩)
        go_ret
        refine ⟨ret_bool ?_, (Below.refl _ _).alloc (Nat.le_refl _) _⟩
        have hno : ¬ p / 2 ^ (32 - n) = b / 2 ^ (32 - n) := fun h => by
          have := HS.out.1 (HD.out h); rw [h1, h2] at this; cases this
        simp [alike, HR.out, hno]
      · go_wp2_with (go_at_call 29; refine (rbit_any _ k (by assumption) (by omega) _).mono ?_; rintro e w' ⟨rfl, rfl⟩)
        go_ret
        refine ⟨ret_bool ?_, (Below.refl _ _).alloc (Nat.le_refl _) _⟩
        have hno : ¬ p / 2 ^ (32 - n) = b / 2 ^ (32 - n) := fun h => by
          have := HS.out.1 (HD.out h); rw [h1, h2] at this; cases this
        simp [alike, HR.out, hno]
      · go_wp2_with (go_at_call 29; refine (rbit_any _ k (by assumption) (by omega) _).mono ?_; rintro e w' ⟨rfl, rfl⟩)
        go_round
        case rel => exact ⟨k + 1, by omega, by go_num, HS.out.2 (by rw [h1, h2])⟩
        case measure => simp [intOf]; omega
    · have hkn : k = n := by omega
      have HK := Lib.hid hkn
      clear hkn
      go_wp2
      go_ret
      exact ⟨ret_bool (by have := HA.out; rw [HK.out] at this; simp [alike, HR.out, this]), (Below.refl _ _).alloc (Nat.le_refl _) _⟩

theorem ahead_any (p m q n : Nat) (w : World) :
    Calls Try.prog 18 #[.agg #[.int .u32 p, .int .u8 m], .agg #[.int .u32 q, .int .u8 n]] w fun e w' => e = .returned (.bool (decide (p < q) || (p == q && decide (m < n)))) ∧ Below w.heap.size w w' := by
  rcases Nat.lt_trichotomy p q with h | h | h
  · go_enter Try.func18, Try.ntmps18
    go_wp2
    go_ret
    exact ⟨ret_bool (by simp [h]), ((Below.refl _ _).alloc (Nat.le_refl _) _).alloc (by simp) _⟩
  · subst h
    go_enter Try.func18, Try.ntmps18
    go_wp2
    go_ret
    exact ⟨ret_bool (by simp), ((Below.refl _ _).alloc (Nat.le_refl _) _).alloc (by simp) _⟩
  · have h2 : ¬ p < q := by omega
    have h3 : ((p : Int) == q) = false := by simp; omega
    have h4 : (p == q) = false := by simp; omega
    go_enter Try.func18, Try.ntmps18
    go_wp2
    go_ret
    exact ⟨ret_bool (by simp [h2, h4]), ((Below.refl _ _).alloc (Nat.le_refl _) _).alloc (by simp) _⟩

def zeros (p q : Nat) : Nat := 32 - Lib.bitLen (p ^^^ q)
def comm (p m q n : Nat) : Nat := min (min (zeros p q) m) n

theorem common_any (p m q n : Nat) (hp : p < 4294967296) (_hm : m ≤ 32) (hq : q < 4294967296) (_hn : n ≤ 32) (w : World) :
    Calls Try.prog 36 #[.agg #[.int .u32 p, .int .u8 m], .agg #[.int .u32 q, .int .u8 n]] w fun e w' => e = .returned (.int .u8 (comm p m q n : Nat)) ∧ Below w.heap.size w w' := by
  have hxl : p ^^^ q < 4294967296 := Nat.xor_lt_two_pow (n := 32) (by omega) (by omega)
  have hx : bits .xor .u32 (p : Int) (q : Int) = ((p ^^^ q : Nat) : Int) := u32_xor_nat p q hp hq
  have hbl : Lib.bitLen (p ^^^ q) ≤ 32 := Lib.bitLen_le _ 32 (by decide) (by omega)
  have hz : (32 : Int) - ((Lib.bitLen (p ^^^ q) : Nat) : Int) = ((zeros p q : Nat) : Int) := by unfold zeros; omega
  have hz2 : zeros p q ≤ 32 := by unfold zeros; omega
  have hlz := fun w => Try.bits_LeadingZeros32 ((p ^^^ q : Nat) : Int) w (by omega) (by omega)
  simp only [Int.toNat_natCast] at hlz
  simp only [hz] at hlz
  have hc : ((comm p m q n : Nat) : Int) = min (min ((zeros p q : Nat) : Int) m) n := by unfold comm; omega
  have HC := Lib.hid hc
  clear hc hz hbl
  generalize zeros p q = z at *
  generalize p ^^^ q = x at *
  go_enter Try.func36, Try.ntmps36
  go_wp2_with (go_at_call 37; refine (hlz _).mono ?_; rintro e w1 ⟨rfl, rfl⟩)
  all_goals (go_ret; refine ⟨ret_int ?_, ((Below.refl _ _).alloc (Nat.le_refl _) _).alloc (by simp) _⟩; rw [HC.out]; clear HC hlz; first | omega | (repeat' split at * <;> omega))

theorem zeros_ge (p q k : Nat) (hp : p < 4294967296) (hq : q < 4294967296) (hk : k ≤ 32) : k ≤ zeros p q ↔ p / 2 ^ (32 - k) = q / 2 ^ (32 - k) := by
  have hxl : p ^^^ q < 2 ^ 32 := Nat.xor_lt_two_pow (by simpa using hp) (by simpa using hq)
  rw [← xor_alike p q (32 - k)]
  unfold zeros
  have hbl : Lib.bitLen (p ^^^ q) ≤ 32 := Lib.bitLen_le _ 32 (by decide) hxl
  generalize p ^^^ q = x at *
  have hpos := Nat.two_pow_pos (32 - k)
  constructor
  · intro h
    have h1 : Lib.bitLen x ≤ 32 - k := by omega
    have h2 : x < 2 ^ (32 - k) := by
      by_cases h0 : x = 0
      · rw [h0]; exact hpos
      · have := (Lib.bitLenAux_bounds 64 x (Nat.lt_of_lt_of_le hxl (by decide)) h0).2.2
        exact Nat.lt_of_lt_of_le this (Nat.pow_le_pow_right (by decide) h1)
    rw [Nat.div_eq_of_lt h2, Nat.zero_mul]
  · intro h
    have h1 : x / 2 ^ (32 - k) = 0 := by
      rcases Nat.mul_eq_zero.1 h with h | h
      · exact h
      · omega
    have h2 : x < 2 ^ (32 - k) := by
      rcases Nat.lt_or_ge x (2 ^ (32 - k)) with h3 | h3
      · exact h3
      · have := Nat.div_pos h3 hpos; omega
    have := Lib.bitLen_le x (32 - k) (by omega) h2
    omega

theorem zeros_comm (p q : Nat) : zeros p q = zeros q p := by unfold zeros; rw [Nat.xor_comm]
end Go.Proofs.Ytfhpcpanjonpeaa.Pre
