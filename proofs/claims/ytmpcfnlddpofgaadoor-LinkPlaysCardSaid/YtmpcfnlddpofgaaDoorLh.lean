/- Links: the sixteen bits, as a list of bools. Pure. -/
import Derived.Test.YtmpcfnlddpofgaaDoorLf
namespace Go.Proofs.YtmpcfnlddpofgaaDoor.Lk
open Go.ChangeShapes Go.WideShapes Go.ChangeAt Go.RowKit
set_option linter.unusedVariables false

def bm (f : Nat → Bool) (n : Nat) : List Value := (List.range n).map fun j => .bool (f j)
theorem bm_len (f : Nat → Bool) (n : Nat) : (bm f n).length = n := by unfold bm; simp
theorem bm_at (f : Nat → Bool) (n j : Nat) (h : j < n) : (bm f n)[j]? = some (.bool (f j)) := by unfold bm; simp [h]
theorem bm_congr (f g : Nat → Bool) (n : Nat) (h : ∀ j, j < n → f j = g j) : bm f n = bm g n := by
  unfold bm
  exact List.map_congr_left fun j hj => by rw [h j (List.mem_range.1 hj)]
theorem bm_set (f : Nat → Bool) (n p : Nat) (b : Bool) : (bm f n).set p (.bool b) = bm (fun j => if j = p then b else f j) n := by
  apply List.ext_getElem?
  intro j
  rw [List.getElem?_set]
  by_cases hj : j < n
  · rw [bm_at f n j hj, bm_at _ n j hj]
    by_cases hp : p = j
    · subst hp
      rw [if_pos rfl, if_pos (by rw [bm_len]; exact hj), if_pos rfl]
    · rw [if_neg hp, if_neg (fun h => hp h.symm)]
  · have h1 : ∀ f : Nat → Bool, (bm f n)[j]? = none := fun f => List.getElem?_eq_none (by rw [bm_len]; omega)
    rw [h1, h1]
    split
    · rw [if_neg (by rw [bm_len]; omega)]
    · rfl
theorem bm_cons (f : Nat → Bool) (b : Bool) (n : Nat) : .bool b :: bm f n = bm (fun j => if j = 0 then b else f (j - 1)) (n + 1) := by
  apply List.ext_getElem?
  intro j
  rcases j with _ | j
  · rw [bm_at _ _ _ (by omega)]; simp
  · by_cases hj : j < n
    · rw [List.getElem?_cons_succ, bm_at _ _ _ hj, bm_at _ _ _ (by omega)]; simp
    · rw [List.getElem?_eq_none (by simp [bm_len]; omega), List.getElem?_eq_none (by rw [bm_len]; omega)]
theorem bm_take (f : Nat → Bool) (n k : Nat) (h : k ≤ n) : (bm f n).take k = bm f k := by
  unfold bm
  rw [← List.map_take, List.take_range, Nat.min_eq_left h]

theorem sh_bit (c s j : Nat) (hj : j < 16) : (sh c s).testBit j = (decide (s ≤ j) && c.testBit (j - s)) := by
  unfold sh
  rw [show (65536 : Nat) = 2 ^ 16 from rfl, Nat.testBit_mod_two_pow, Nat.testBit_mul_two_pow]
  simp only [hj, decide_true, Bool.true_and]
  by_cases h : s ≤ j
  · rw [show min s 16 = s by omega]
  · have h2 : ¬ min s 16 ≤ j := by omega
    simp [h, h2]
theorem one_more (c j : Nat) (h : c % 2 = 0) : (c + 1).testBit j = if j = 0 then true else c.testBit j := by
  rcases j with _ | j
  · simp [Nat.testBit_zero]; omega
  · rw [Nat.testBit_succ, Nat.testBit_succ, show (c + 1) / 2 = c / 2 by omega]; simp
theorem bits_zero (c : Nat) (hc : c < 65536) (h : ∀ j, j < 16 → c.testBit j = false) : c = 0 := by
  apply Nat.eq_of_testBit_eq
  intro j
  rcases Nat.lt_or_ge j 16 with hj | hj
  · rw [h j hj]; simp
  · rw [Nat.testBit_lt_two_pow (Nat.lt_of_lt_of_le hc (show 65536 ≤ 2 ^ j from Nat.pow_le_pow_right (n := 2) (by decide) hj))]; simp
def anyB (f : Nat → Bool) : Nat → Bool
  | 0 => false
  | k + 1 => anyB f k || f k
theorem anyB_false (f : Nat → Bool) : ∀ k, anyB f k = false → ∀ j, j < k → f j = false
  | 0, _, j, hj => by omega
  | k + 1, h, j, hj => by
    simp only [anyB, Bool.or_eq_false_iff] at h
    rcases Nat.lt_or_ge j k with hl | hl
    · exact anyB_false f k h.1 j hl
    · obtain rfl : j = k := by omega
      exact h.2
theorem any16 (c : Nat) (hc : c < 65536) : anyB c.testBit 16 = decide (c ≠ 0) := by
  cases h : anyB c.testBit 16
  · have := bits_zero c hc (anyB_false _ 16 h)
    simp [this]
  · by_cases h0 : c = 0
    · subst h0
      have : ∀ k, anyB (Nat.testBit 0) k = false := fun k => by
        induction k with
        | zero => rfl
        | succ k ih => simp [anyB, ih]
      rw [this] at h; cases h
    · simp [h0]
/-- How many of the first three, among the first k. -/
def cnt (f : Nat → Bool) : Nat → Nat
  | 0 => 0
  | k + 1 => cnt f k + if f k && decide (k < 3) then 1 else 0
theorem cnt_le (f : Nat → Bool) : ∀ k, cnt f k ≤ k
  | 0 => Nat.le_refl _
  | k + 1 => by have := cnt_le f k; simp only [cnt]; split <;> omega
theorem cnt_more (f : Nat → Bool) (k : Nat) : cnt f (3 + k) = cnt f 3 := by
  induction k with
  | zero => rfl
  | succ k ih =>
    have : cnt f (3 + k + 1) = cnt f (3 + k) + if f (3 + k) && decide (3 + k < 3) then 1 else 0 := rfl
    rw [show 3 + (k + 1) = 3 + k + 1 by omega, this, ih, show decide (3 + k < 3) = false by simp, Bool.and_false, if_neg (by decide)]
    rfl
theorem recv_cnt (c : Nat) : recv c = if 2 ≤ cnt c.testBit 16 then 96 else 65535 := by
  rw [show 16 = 3 + 13 from rfl, cnt_more]
  unfold recv
  have e : cnt c.testBit 3 = c % 2 + c / 2 % 2 + c / 4 % 2 := by
    simp only [cnt]
    have h0 : c.testBit 0 = decide (c % 2 = 1) := by simp [Nat.testBit_zero]
    have h1 : c.testBit 1 = decide (c / 2 % 2 = 1) := by rw [Nat.testBit_succ]; simp [Nat.testBit_zero]
    have h2 : c.testBit 2 = decide (c / 4 % 2 = 1) := by rw [Nat.testBit_succ, Nat.testBit_succ]; simp [Nat.testBit_zero, Nat.div_div_eq_div_mul]
    rw [h0, h1, h2]
    by_cases a0 : c % 2 = 1 <;> by_cases a1 : c / 2 % 2 = 1 <;> by_cases a2 : c / 4 % 2 = 1 <;> simp [a0, a1, a2] <;> try omega
  rw [e]
theorem odd_pow (a b m n : Nat) (h : 2 ^ a * (2 * m + 1) = 2 ^ b * (2 * n + 1)) : a = b := by
  have main : ∀ a b m n, a < b → 2 ^ a * (2 * m + 1) = 2 ^ b * (2 * n + 1) → False := fun a b m n hab h => by
    obtain ⟨d, rfl⟩ : ∃ d, b = a + (d + 1) := ⟨b - a - 1, by omega⟩
    rw [Nat.pow_add, Nat.mul_assoc] at h
    have h := Nat.eq_of_mul_eq_mul_left (Nat.two_pow_pos a) h
    rw [Nat.pow_succ, Nat.mul_comm (2 ^ d) 2, Nat.mul_assoc] at h
    omega
  rcases Nat.lt_trichotomy a b with hl | hl | hl
  · exact (main a b m n hl h).elim
  · exact hl
  · exact (main b a n m hl h.symm).elim
theorem tz_spec (c : Nat) (h0 : c ≠ 0) (h : c < 65536) : ∃ m, c = 2 ^ tz c * (2 * m + 1) ∧ tz c < 16 := by
  unfold tz Lib.ctz
  rw [if_neg h0]
  exact Lib.ctzFrom_spec 16 c (by omega) h
theorem tz_double (c : Nat) (h : c < 65536) (h0 : c * 2 % 65536 ≠ 0) : tz (c * 2 % 65536) = tz c + 1 := by
  have hc0 : c ≠ 0 := fun e => by subst e; exact h0 rfl
  obtain ⟨m, hm, hz⟩ := tz_spec c hc0 h
  obtain ⟨m', hm', hz'⟩ := tz_spec (c * 2 % 65536) h0 (Nat.mod_lt _ (by decide))
  generalize tz c = z at *
  generalize tz (c * 2 % 65536) = z' at *
  have e : c * 2 = 2 ^ (z + 1) * (2 * m + 1) := by rw [hm, Nat.pow_succ]; rw [Nat.mul_assoc, Nat.mul_comm (2 * m + 1) 2, ← Nat.mul_assoc]
  rw [e] at hm' h0
  by_cases hz1 : z + 1 < 16
  · obtain ⟨d, hd⟩ : ∃ d, 16 = (z + 1) + (d + 1) := ⟨16 - (z + 1) - 1, by omega⟩
    rw [show (65536 : Nat) = 2 ^ 16 from rfl, hd, Nat.pow_add 2 (z + 1) (d + 1), Nat.mul_mod_mul_left] at hm'
    have ho : (2 * m + 1) % 2 ^ (d + 1) % 2 = 1 := by
      rw [Nat.pow_succ, Nat.mod_mod_of_dvd _ (Nat.dvd_mul_left 2 (2 ^ d))]; omega
    obtain ⟨n, hn⟩ : ∃ n, (2 * m + 1) % 2 ^ (d + 1) = 2 * n + 1 := ⟨(2 * m + 1) % 2 ^ (d + 1) / 2, by omega⟩
    rw [hn] at hm'
    exact (odd_pow _ _ _ _ hm').symm
  · exfalso
    obtain rfl : z = 15 := by omega
    apply h0
    show 65536 * (2 * m + 1) % 65536 = 0
    exact Nat.mul_mod_right _ _
theorem tz_sh (c k : Nat) (h : c < 65536) (h0 : sh c k ≠ 0) : tz (sh c k) = tz c + k := by
  induction k with
  | zero => rw [sh_zero _ h]; rfl
  | succ k ih =>
    rw [← sh_succ] at h0 ⊢
    have hk : sh c k ≠ 0 := fun e => by rw [e] at h0; exact h0 rfl
    rw [tz_double _ (sh_lt c k) h0, ih hk]; omega
theorem hello_alone (l : L) (n now next : Nat) (hn : l.c ≠ 0 → next = l.n + 1 + tz l.c) (h : l.c = 0 ∨ n < next ∨ 16 ≤ n - next) (hc : l.c < 65536) : (l.hello n now).c = 1 := by
  by_cases h0 : l.c = 0
  · exact hello_first l n now h0
  · have hn := hn h0
    unfold L.hello
    show sh l.c (l.steps n) + 1 = 1
    have : 16 ≤ l.steps n := by
      unfold L.steps
      split
      · exact Nat.le_refl _
      · omega
    rw [sh_16 _ _ this]
theorem hello_shift (l : L) (n now next : Nat) (hn : l.c ≠ 0 → next = l.n + 1 + tz l.c) (h0 : l.c ≠ 0) (h1 : next ≤ n) : (l.hello n now).c = sh l.c (n - next + 1) + 1 := by
  have hn := hn h0
  unfold L.hello
  show sh l.c (l.steps n) + 1 = _
  have : l.steps n = n - next + 1 := by
    unfold L.steps
    rw [if_neg (by omega)]; omega
  rw [this]
theorem alone_bits : bm (fun j => if j = 0 then true else false) 16 = bm (Nat.testBit 1) 16 := bm_congr _ _ _ fun j hj => by
  have := one_more 0 j rfl
  simp only [Nat.zero_add, Nat.zero_testBit] at this
  exact this.symm
theorem shift_bits (c s : Nat) (hs : 1 ≤ s) : bm (fun j => if j = 0 then true else decide (s ≤ j) && c.testBit (j - s)) 16 = bm (sh c s + 1).testBit 16 := bm_congr _ _ _ fun j hj => by
  rw [one_more _ _ (sh_even c s hs).1, sh_bit _ _ _ hj]
theorem tick_bits (c t : Nat) : .bool false :: bm (sh c t).testBit 15 = bm (sh c (t + 1)).testBit 16 := by
  rw [bm_cons]
  refine bm_congr _ _ _ fun j hj => ?_
  rw [← sh_sh c t 1, sh_bit _ _ _ hj]
  rcases j with _ | j
  · simp
  · simp
theorem zero_bits : bm (fun _ => false) 16 = bm (Nat.testBit 0) 16 := bm_congr _ _ _ fun j hj => by simp
end Go.Proofs.YtmpcfnlddpofgaaDoor.Lk
