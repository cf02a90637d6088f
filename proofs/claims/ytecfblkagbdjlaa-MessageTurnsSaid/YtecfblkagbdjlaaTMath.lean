/- CRC-32C, over natural numbers: bit by bit, byte by byte. Nothing of the program. -/
import Derived.PlainAid
namespace Go.Proofs.Ytecfblkagbdjlaa.Tal

/-- A line one place lower, turned if a one fell out. -/
def low (x : Nat) : Nat := if x % 2 = 1 then x / 2 ^^^ 2197175160 else x / 2
def lowN : Nat → Nat → Nat
  | 0, x => x
  | k + 1, x => low (lowN k x)
theorem xor_mod2 (x y : Nat) : (x ^^^ y) % 2 = (x % 2 + y % 2) % 2 := by
  have h := Nat.xor_mod_two_pow (a := x) (b := y) (n := 1)
  rw [Nat.pow_one] at h
  rw [h]
  rcases Nat.mod_two_eq_zero_or_one x with hx | hx <;> rcases Nat.mod_two_eq_zero_or_one y with hy | hy <;> rw [hx, hy] <;> rfl
theorem low_xor (x y : Nat) : low (x ^^^ y) = low x ^^^ low y := by
  unfold low
  have hd : (x ^^^ y) / 2 = x / 2 ^^^ y / 2 := Nat.xor_div_two
  rw [xor_mod2, hd]
  rcases Nat.mod_two_eq_zero_or_one x with hx | hx <;> rcases Nat.mod_two_eq_zero_or_one y with hy | hy <;> simp only [hx, hy] <;> simp
  · rw [Nat.xor_assoc]
  · rw [Nat.xor_assoc, Nat.xor_assoc, Nat.xor_comm 2197175160 (y / 2)]
  · rw [Nat.xor_assoc, Nat.xor_comm (y / 2), ← Nat.xor_assoc 2197175160, Nat.xor_self, Nat.zero_xor]
theorem lowN_xor (k x y : Nat) : lowN k (x ^^^ y) = lowN k x ^^^ lowN k y := by
  induction k with
  | zero => rfl
  | succ k ih => simp only [lowN, ih, low_xor]
theorem low_lt (x : Nat) (h : x < 4294967296) : low x < 4294967296 := by
  unfold low
  split
  · exact Nat.xor_lt_two_pow (n := 32) (by omega) (by omega)
  · omega
theorem lowN_lt (k x : Nat) (h : x < 4294967296) : lowN k x < 4294967296 := by
  induction k with
  | zero => exact h
  | succ k ih => exact low_lt _ ih
theorem low_double (x : Nat) : low (2 * x) = x := by unfold low; rw [if_neg (by omega)]; omega
theorem lowN_succ (k x : Nat) : lowN (k + 1) x = lowN k (low x) := by
  induction k with
  | zero => rfl
  | succ k ih => rw [lowN, ih]; rfl
theorem lowN_shift (k x : Nat) : lowN k (x * 2 ^ k) = x := by
  induction k generalizing x with
  | zero => simp [lowN]
  | succ k ih =>
    have e : x * 2 ^ (k + 1) = 2 * (x * 2 ^ k) := by rw [Nat.pow_succ, ← Nat.mul_assoc, Nat.mul_comm]
    rw [lowN_succ, e, low_double, ih]
theorem low_zero (x : Nat) (h : x < 4294967296) (h0 : low x = 0) : x = 0 := by
  unfold low at h0
  split at h0
  · have : x / 2 = 2197175160 := by
      have h1 : x / 2 ^^^ 2197175160 ^^^ 2197175160 = 0 ^^^ 2197175160 := by rw [h0]
      rw [Nat.xor_assoc, Nat.xor_self, Nat.xor_zero, Nat.zero_xor] at h1
      exact h1
    omega
  · omega
theorem lowN_zero (k x : Nat) (h : x < 4294967296) : lowN k x = 0 ↔ x = 0 := by
  constructor
  · intro h0
    induction k with
    | zero => exact h0
    | succ k ih => exact ih (low_zero _ (lowN_lt k x h) h0)
  · rintro rfl
    induction k with
    | zero => rfl
    | succ k ih => rw [lowN, ih]; rfl

/-- A line of the table. -/
def tab (b : Nat) : Nat := lowN 8 b
theorem tab_lt (b : Nat) (h : b < 256) : tab b < 4294967296 := lowN_lt 8 b (by omega)
/-- One byte more. -/
def step (r : Nat) (b : UInt8) : Nat := lowN 8 (r ^^^ b.toNat)
theorem join_xor (i x y : Nat) (hy : y < 2 ^ i) : x * 2 ^ i ^^^ y = x * 2 ^ i + y := by
  apply Nat.eq_of_testBit_eq
  intro j
  rw [Nat.testBit_xor, Nat.mul_comm x, Nat.testBit_two_pow_mul, Nat.testBit_two_pow_mul_add _ hy]
  by_cases h : j < i
  · simp [h, show ¬ i ≤ j by omega]
  · have : y.testBit j = false := Nat.testBit_lt_two_pow (Nat.lt_of_lt_of_le hy (Nat.pow_le_pow_right (by decide) (by omega)))
    simp [h, this]; intro h2; omega
theorem step_eq (r : Nat) (b : UInt8) : step r b = r / 256 ^^^ tab (r % 256 ^^^ b.toNat) := by
  unfold step tab
  have e : r = r / 256 * 2 ^ 8 ^^^ r % 256 := by rw [join_xor 8 _ _ (by omega)]; omega
  conv => lhs; rw [e, Nat.xor_assoc, lowN_xor, lowN_shift]
def crc (r : Nat) (l : List UInt8) : Nat := l.foldl step r
theorem step_lt (r : Nat) (b : UInt8) (h : r < 4294967296) : step r b < 4294967296 := by
  have hb : b.toNat < 256 := b.toNat_lt
  exact lowN_lt 8 _ (Nat.xor_lt_two_pow (n := 32) (by omega) (by omega))
theorem crc_lt (r : Nat) (l : List UInt8) (h : r < 4294967296) : crc r l < 4294967296 := by
  induction l generalizing r with
  | nil => exact h
  | cons b l ih => exact ih _ (step_lt r b h)
theorem crc_append (r : Nat) (l m : List UInt8) : crc r (l ++ m) = crc (crc r l) m := by simp [crc]
theorem crc_snoc (r : Nat) (l : List UInt8) (b : UInt8) : crc r (l ++ [b]) = step (crc r l) b := by simp [crc]
/-- The sum of bytes, behind others of which the sum is known. -/
def more (s : Nat) (l : List UInt8) : Nat := 4294967295 - crc (4294967295 - s) l
theorem more_lt (s : Nat) (l : List UInt8) : more s l < 4294967296 := by unfold more; omega
theorem more_more (s : Nat) (l m : List UInt8) : more (more s l) m = more s (l ++ m) := by
  have h := crc_lt (4294967295 - s) l (by omega)
  unfold more
  rw [crc_append]
  congr 2; omega

/-- A bit of some bytes: of each byte the lowest first. -/
def bitAt (l : List UInt8) (i : Nat) : Nat := (l.getD (i / 8) 0).toNat / 2 ^ (i % 8) % 2
/-- Bit by bit. -/
def feed (e : Nat → Nat) (r : Nat) : Nat → Nat
  | 0 => r
  | i + 1 => low (feed e r i ^^^ e i)
theorem feed_bits (e : Nat → Nat) (r v s : Nat) : ∀ t, (∀ j, j < t → e (s + j) = v / 2 ^ j % 2) → feed e r (s + t) = lowN t (feed e r s ^^^ v % 2 ^ t) := by
  intro t
  induction t with
  | zero => intro _; simp [lowN, Nat.mod_one]
  | succ t ih =>
    intro h
    rw [← Nat.add_assoc, feed, ih fun j hj => h j (by omega), h t (by omega), lowN]
    have e1 : v % 2 ^ (t + 1) = v / 2 ^ t % 2 * 2 ^ t ^^^ v % 2 ^ t := by
      rw [join_xor _ _ _ (Nat.mod_lt _ (Nat.two_pow_pos t)), Nat.mod_pow_succ, Nat.mul_comm, Nat.add_comm]
    have e2 : lowN t (feed e r s ^^^ v % 2 ^ (t + 1)) = lowN t (feed e r s ^^^ v % 2 ^ t) ^^^ v / 2 ^ t % 2 := by
      rw [e1, Nat.xor_comm (v / 2 ^ t % 2 * 2 ^ t), ← Nat.xor_assoc, lowN_xor, lowN_shift]
    rw [e2]
theorem feed_byte (l : List UInt8) (r j t : Nat) (ht : t ≤ 8) : feed (bitAt l) r (8 * j + t) = lowN t (feed (bitAt l) r (8 * j) ^^^ (l.getD j 0).toNat % 2 ^ t) := by
  refine feed_bits _ _ _ _ t fun i hi => ?_
  unfold bitAt
  have e1 : (8 * j + i) / 8 = j := by omega
  have e2 : (8 * j + i) % 8 = i := by omega
  rw [e1, e2]
theorem feed_crc (l : List UInt8) (r j : Nat) (hj : j ≤ l.length) : feed (bitAt l) r (8 * j) = crc r (l.take j) := by
  induction j with
  | zero => rfl
  | succ j ih =>
    have hb : (l.getD j 0).toNat < 256 := UInt8.toNat_lt _
    have e : l.getD j 0 = l[j] := by simp [List.getD, show j < l.length by omega]
    rw [Nat.mul_succ, feed_byte l r j 8 (by omega), ih (by omega), List.take_succ_eq_append_getElem (by omega), crc_snoc, step, Nat.mod_eq_of_lt (by simpa using hb), e]

theorem feed_xor (e f : Nat → Nat) (r s : Nat) (i : Nat) : feed e r i ^^^ feed f s i = feed (fun j => e j ^^^ f j) (r ^^^ s) i := by
  induction i with
  | zero => rfl
  | succ i ih =>
    simp only [feed]
    rw [← low_xor, ← ih]
    congr 1
    simp only [Nat.xor_assoc]
    congr 1
    rw [← Nat.xor_assoc (e i), Nat.xor_comm (e i), Nat.xor_assoc]
theorem feed_ahead (e : Nat → Nat) (k : Nat) (h : ∀ i, i < k → e i = 0) : feed e 0 k = 0 := by
  induction k with
  | zero => rfl
  | succ k ih => rw [feed, ih fun i hi => h i (by omega), h k (by omega)]; rfl
theorem feed_behind (e : Nat → Nat) (r s : Nat) : ∀ t, (∀ j, j < t → e (s + j) = 0) → feed e r (s + t) = lowN t (feed e r s) := by
  intro t h
  have := feed_bits e r 0 s t fun j hj => by rw [h j hj]; simp
  simpa using this
/-- Of bits that are turned, m of them at most 32, one behind the other. -/
theorem burst (e : Nat → Nat) (k m n v : Nat) (hm : m ≤ 32) (hn : k + m ≤ n) (h1 : ∀ i, i < k → e i = 0) (h2 : ∀ j, j < m → e (k + j) = v / 2 ^ j % 2) (h3 : ∀ i, k + m ≤ i → i < n → e i = 0) : feed e 0 n = 0 ↔ v % 2 ^ m = 0 := by
  have a := feed_ahead e k h1
  have b := feed_bits e 0 v k m h2
  rw [a, Nat.zero_xor] at b
  have c := feed_behind e 0 (k + m) (n - (k + m)) fun j hj => h3 _ (by omega) (by omega)
  rw [b, show k + m + (n - (k + m)) = n by omega] at c
  have hv : v % 2 ^ m < 4294967296 := by
    have := Nat.mod_lt v (Nat.two_pow_pos m)
    have := Nat.pow_le_pow_right (n := 2) (by decide) hm
    omega
  rw [c, lowN_zero _ _ (lowN_lt _ _ hv), lowN_zero _ _ hv]
theorem crc_feed (l : List UInt8) (r : Nat) : crc r l = feed (bitAt l) r (8 * l.length) := by
  rw [feed_crc l r l.length (Nat.le_refl _), List.take_length]
theorem more_burst (p q : List UInt8) (hl : q.length = p.length) (k m v : Nat) (hm : m ≤ 32) (hn : k + m ≤ 8 * p.length)
    (h1 : ∀ i, i < 8 * p.length → bitAt q i = (bitAt p i + if k ≤ i ∧ i < k + m then v / 2 ^ (i - k) % 2 else 0) % 2) : more 0 q = more 0 p ↔ v % 2 ^ m = 0 := by
  have e : more 0 q = more 0 p ↔ crc 4294967295 q ^^^ crc 4294967295 p = 0 := by
    have h1 := crc_lt 4294967295 q (by omega)
    have h2 := crc_lt 4294967295 p (by omega)
    have h3 : crc 4294967295 q ^^^ crc 4294967295 p = 0 ↔ crc 4294967295 q = crc 4294967295 p := by
      constructor
      · intro h
        have := congrArg (· ^^^ crc 4294967295 p) h
        simpa [Nat.xor_assoc] using this
      · intro h; rw [h, Nat.xor_self]
    rw [h3]
    unfold more
    simp only [Nat.sub_zero]
    omega
  rw [e, crc_feed, crc_feed, hl, feed_xor, Nat.xor_self]
  have hx : ∀ i, i < 8 * p.length → bitAt q i ^^^ bitAt p i = if k ≤ i ∧ i < k + m then v / 2 ^ (i - k) % 2 else 0 := by
    intro i hi
    rw [h1 i hi]
    have hp : bitAt p i = 0 ∨ bitAt p i = 1 := by unfold bitAt; omega
    generalize hy : (if k ≤ i ∧ i < k + m then v / 2 ^ (i - k) % 2 else 0) = y
    have hy2 : y = 0 ∨ y = 1 := by subst hy; split <;> omega
    rcases hp with h | h <;> rcases hy2 with h' | h' <;> rw [h, h'] <;> rfl
  refine burst _ k m _ v hm hn (fun i hi => ?_) (fun j hj => ?_) (fun i hi hin => ?_)
  · rw [hx i (by omega), if_neg (by omega)]
  · rw [hx (k + j) (by omega), if_pos (by omega), Nat.add_sub_cancel_left]
  · rw [hx i hin, if_neg (by omega)]
theorem tab_xor (a b : Nat) : tab (a ^^^ b) = tab a ^^^ tab b := lowN_xor 8 a b
theorem tab_inj (a b : Nat) (ha : a < 256) (hb : b < 256) : tab a = tab b ↔ a = b := by
  constructor
  · intro h
    have h0 : tab (a ^^^ b) = 0 := by rw [tab_xor, h, Nat.xor_self]
    have hl : a ^^^ b < 256 := Nat.xor_lt_two_pow (n := 8) ha hb
    have := (lowN_zero 8 _ (by omega)).1 h0
    have h2 := congrArg (· ^^^ b) this
    simpa [Nat.xor_assoc] using h2
  · rintro rfl; rfl
/-- A bit of a byte is turned. -/
theorem bit_turn (b : UInt8) (t s : Nat) (ht : t < 8) (hs : s < 8) : (b.toNat ^^^ 2 ^ t) / 2 ^ s % 2 = (b.toNat / 2 ^ s % 2 + if s = t then 1 else 0) % 2 := by
  have hb : b.toNat < 256 := b.toNat_lt
  have h := (by decide +kernel : ∀ b : Fin 256, ∀ t : Fin 8, ∀ s : Fin 8, (b.val ^^^ 2 ^ t.val) / 2 ^ s.val % 2 = (b.val / 2 ^ s.val % 2 + if s.val = t.val then 1 else 0) % 2) ⟨b.toNat, hb⟩ ⟨t, ht⟩ ⟨s, hs⟩
  exact h
theorem bitAt_turn (l : List UInt8) (n : Nat) (hn : n / 8 < l.length) (i : Nat) (hi : i < 8 * l.length) : bitAt (l.set (n / 8) (UInt8.ofNat ((l[n / 8]).toNat ^^^ 2 ^ (n % 8)))) i = (bitAt l i + if i = n then 1 else 0) % 2 := by
  unfold bitAt
  have hi8 : i / 8 < l.length := by omega
  by_cases h : i / 8 = n / 8
  · have hlt : (l[n / 8]).toNat ^^^ 2 ^ (n % 8) < 256 := Nat.xor_lt_two_pow (n := 8) (UInt8.toNat_lt _) (Nat.lt_of_lt_of_le (Nat.pow_lt_pow_right (by decide) (Nat.mod_lt n (by decide))) (by decide))
    rw [h]
    have e1 : (l.set (n / 8) (UInt8.ofNat ((l[n / 8]).toNat ^^^ 2 ^ (n % 8)))).getD (n / 8) 0 = UInt8.ofNat ((l[n / 8]).toNat ^^^ 2 ^ (n % 8)) := by simp [List.getD, hn]
    have e2 : l.getD (n / 8) 0 = l[n / 8] := by simp [List.getD, hn]
    rw [e1, e2, UInt8.toNat_ofNat', Nat.mod_eq_of_lt hlt, bit_turn _ _ _ (by omega) (by omega)]
    congr 2
    by_cases e : i = n
    · rw [if_pos (by rw [e]), if_pos e]
    · rw [if_neg (by omega), if_neg e]
  · have e1 : (l.set (n / 8) (UInt8.ofNat ((l[n / 8]).toNat ^^^ 2 ^ (n % 8)))).getD (i / 8) 0 = l.getD (i / 8) 0 := by
      simp only [List.getD]
      rw [List.getElem?_set_ne (by omega)]
    rw [e1, if_neg (by intro e; exact h (by rw [e]))]
    omega
end Go.Proofs.Ytecfblkagbdjlaa.Tal
