/- Numbers as bytes, over natural numbers: how many bytes, which ones, and back. Nothing of the program. -/
import Derived.PlainAid
import Derived.Laws.DeepStrings4
namespace Go.Proofs.Ytldaggcopbnehaa.Coin

/-- How many bytes a number takes. -/
def sz (n : Nat) : Nat := if n < 128 then 1 else if n < 16384 then 2 else if n < 2097152 then 3 else if n < 268435456 then 4 else if n < 34359738368 then 5 else if n < 4398046511104 then 6 else if n < 562949953421312 then 7 else if n < 72057594037927936 then 8 else 9
theorem sz_le (n : Nat) : 1 ≤ sz n ∧ sz n ≤ 9 := by
  unfold sz
  repeat' split
  all_goals omega
/-- A byte that begins with so many ones. -/
def ones (k : Nat) : Nat := 256 - 2 ^ (8 - k)
/-- How many bytes there are, by the first one. -/
def lead (b : Nat) : Nat := if b < 128 then 1 else if b < 192 then 2 else if b < 224 then 3 else if b < 240 then 4 else if b < 248 then 5 else if b < 252 then 6 else if b < 254 then 7 else if b < 255 then 8 else 9
theorem lead_le (b : Nat) : 1 ≤ lead b ∧ lead b ≤ 9 := by
  unfold lead
  repeat' split
  all_goals omega
/-- The last m bytes of a number, the highest first. -/
def be : Nat → Nat → List UInt8
  | 0, _ => []
  | m + 1, n => UInt8.ofNat (n / 256 ^ m) :: be m n
theorem length_be (m n : Nat) : (be m n).length = m := by induction m with
  | zero => rfl
  | succ m ih => simp [be, ih]
/-- A number as bytes. -/
def coin (n : Nat) : List UInt8 := UInt8.ofNat (n / 256 ^ (sz n - 1) + ones (sz n - 1)) :: be (sz n - 1) n
theorem length_coin (n : Nat) : (coin n).length = sz n := by
  have := sz_le n
  simp [coin, length_be]; omega
/-- Bytes as a number, the highest first. -/
def num (a : Nat) (l : List UInt8) : Nat := l.foldl (fun a b => a * 256 + b.toNat) a
theorem num_snoc (a : Nat) (l : List UInt8) (b : UInt8) : num a (l ++ [b]) = num a l * 256 + b.toNat := by simp [num]
theorem num_cons (a : Nat) (b : UInt8) (l : List UInt8) : num a (b :: l) = num (a * 256 + b.toNat) l := rfl
theorem num_be (m n : Nat) : num (n / 256 ^ m) (be m n) = n := by
  induction m with
  | zero => simp [be, num]
  | succ m ih =>
    rw [be, num_cons]
    have e : n / 256 ^ (m + 1) * 256 + (UInt8.ofNat (n / 256 ^ m)).toNat = n / 256 ^ m := by
      rw [Nat.pow_succ, ← Nat.div_div_eq_div_mul]; simp; omega
    rw [e, ih]
theorem num_lt (a : Nat) (l : List UInt8) : num a l < (a + 1) * 256 ^ l.length := by
  induction l generalizing a with
  | nil => simp [num]
  | cons b l ih =>
    rw [num_cons]
    refine Nat.lt_of_lt_of_le (ih _) ?_
    have hb := b.toNat_lt
    rw [List.length_cons, Nat.pow_succ, Nat.mul_comm (256 ^ l.length), ← Nat.mul_assoc]
    exact Nat.mul_le_mul_right _ (by omega)
theorem num_div (a : Nat) (l : List UInt8) : num a l / 256 ^ l.length = a := by
  induction l generalizing a with
  | nil => simp [num]
  | cons b l ih =>
    have hb := b.toNat_lt
    rw [num_cons, List.length_cons, Nat.pow_succ, ← Nat.div_div_eq_div_mul, ih]; omega
theorem be_num (a : Nat) (l : List UInt8) : be l.length (num a l) = l := by
  induction l generalizing a with
  | nil => rfl
  | cons b l ih =>
    rw [List.length_cons, be, num_cons, ih, num_div]
    congr 1
    have hb := b.toNat_lt
    apply UInt8.toNat_inj.1
    simp
theorem be_mod (m n : Nat) : be (m + 1) n = be 1 (n / 256 ^ m) ++ be m n := by simp [be]

/-- What is told of some bytes: the number ahead, how many bytes it has, and the error's number. -/
def val (b : UInt8) (r : List UInt8) : Nat := num (b.toNat - ones (lead b.toNat - 1)) (r.take (lead b.toNat - 1))
def got : List UInt8 → Nat × Nat × Nat
  | [] => (0, 0, 5)
  | b :: r => if r.length + 1 < lead b.toNat then (0, 0, 5) else if sz (val b r) = lead b.toNat then (val b r, lead b.toNat, 0) else (0, 0, 4)

theorem ones_le (b : Nat) (h : b < 256) : ones (lead b - 1) ≤ b := by
  have h := (by decide +kernel : ∀ b : Fin 256, ones (lead b.val - 1) ≤ b.val) ⟨b, h⟩
  exact h
theorem top_lt (b : Nat) (h : b < 256) : b - ones (lead b - 1) < 2 ^ (8 - lead b) := by
  have h := (by decide +kernel : ∀ b : Fin 256, b.val - ones (lead b.val - 1) < 2 ^ (8 - lead b.val)) ⟨b, h⟩
  exact h
theorem lead_top (k t : Nat) (h1 : 1 ≤ k) (h9 : k ≤ 9) (ht : t < 2 ^ (8 - k)) : lead (t + ones (k - 1)) = k ∧ t + ones (k - 1) < 256 := by
  have h128 : t < 129 := by
    have : 2 ^ (8 - k) ≤ 2 ^ 7 := Nat.pow_le_pow_right (by decide) (by omega)
    omega
  have h := (by decide +kernel : ∀ k : Fin 10, ∀ t : Fin 129, 1 ≤ k.val → t.val < 2 ^ (8 - k.val) → lead (t.val + ones (k.val - 1)) = k.val ∧ t.val + ones (k.val - 1) < 256) ⟨k, by omega⟩ ⟨t, h128⟩ h1 ht
  exact h
theorem top_sz (n : Nat) (h : n < 18446744073709551616) : n / 256 ^ (sz n - 1) < 2 ^ (8 - sz n) := by
  unfold sz
  repeat' split
  all_goals (simp only [Nat.reduceSub, Nat.reducePow]; omega)
theorem val_lt (b : UInt8) (r : List UInt8) (h : lead b.toNat ≤ r.length + 1) : val b r < 18446744073709551616 := by
  have hb := b.toNat_lt
  have ht := top_lt b.toNat hb
  have hl := lead_le b.toNat
  unfold val
  refine Nat.lt_of_lt_of_le (num_lt _ _) ?_
  have hlen : (r.take (lead b.toNat - 1)).length = lead b.toNat - 1 := by simp; omega
  rw [hlen]
  refine Nat.le_trans (Nat.mul_le_mul_right _ ht) ?_
  generalize lead b.toNat = k at hl
  obtain ⟨h1, h9⟩ := hl
  rcases (by omega : k = 1 ∨ k = 2 ∨ k = 3 ∨ k = 4 ∨ k = 5 ∨ k = 6 ∨ k = 7 ∨ k = 8 ∨ k = 9) with h | h | h | h | h | h | h | h | h <;> subst h <;> decide
theorem got_coin (n : Nat) (hn : n < 18446744073709551616) (r : List UInt8) : got (coin n ++ r) = (n, sz n, 0) := by
  have hs := sz_le n
  obtain ⟨hl, hlt⟩ := lead_top (sz n) _ hs.1 hs.2 (top_sz n hn)
  have hb : (UInt8.ofNat (n / 256 ^ (sz n - 1) + ones (sz n - 1))).toNat = n / 256 ^ (sz n - 1) + ones (sz n - 1) := by
    rw [UInt8.toNat_ofNat', Nat.mod_eq_of_lt hlt]
  have hv : val (UInt8.ofNat (n / 256 ^ (sz n - 1) + ones (sz n - 1))) (be (sz n - 1) n ++ r) = n := by
    unfold val
    rw [hb, hl, List.take_append_of_le_length (by rw [length_be]; exact Nat.le_refl _), List.take_of_length_le (by rw [length_be]; exact Nat.le_refl _), Nat.add_sub_cancel, num_be]
  unfold coin
  simp only [List.cons_append, got]
  rw [hv, hb, hl, if_neg (by rw [List.length_append, length_be]; omega), if_pos rfl]
theorem coin_val (b : UInt8) (r : List UInt8) (h : lead b.toNat ≤ r.length + 1) (hs : sz (val b r) = lead b.toNat) : coin (val b r) = (b :: r).take (lead b.toNat) := by
  have hl := lead_le b.toNat
  have hlen : (r.take (lead b.toNat - 1)).length = lead b.toNat - 1 := by simp; omega
  have e : lead b.toNat = lead b.toNat - 1 + 1 := by omega
  unfold coin
  rw [hs, e, List.take_succ_cons, Nat.add_sub_cancel]
  have h1 : val b r / 256 ^ (lead b.toNat - 1) = b.toNat - ones (lead b.toNat - 1) := by
    have := num_div (b.toNat - ones (lead b.toNat - 1)) (r.take (lead b.toNat - 1))
    rw [hlen] at this; exact this
  have h2 : be (lead b.toNat - 1) (val b r) = r.take (lead b.toNat - 1) := by
    have := be_num (b.toNat - ones (lead b.toNat - 1)) (r.take (lead b.toNat - 1))
    rw [hlen] at this; exact this
  have hb := b.toNat_lt
  have := ones_le b.toNat hb
  rw [h1, h2, Nat.sub_add_cancel this]
  simp
theorem coin_val_iff (b : UInt8) (r : List UInt8) (h : lead b.toNat ≤ r.length + 1) : coin (val b r) = (b :: r).take (lead b.toNat) ↔ sz (val b r) = lead b.toNat := by
  refine ⟨fun e => ?_, coin_val b r h⟩
  have := congrArg List.length e
  rw [length_coin] at this
  rw [this]; simp; omega
theorem got_lt (l : List UInt8) : (got l).1 < 18446744073709551616 ∧ (got l).2.1 ≤ 9 ∧ (got l).2.1 ≤ l.length ∧ (got l).2.2 ≤ 5 := by
  rcases l with _ | ⟨b, r⟩
  · simp [got]
  · simp only [got]
    split
    · simp
    · rename_i h
      split
      · exact ⟨val_lt b r (by omega), (lead_le _).2, by simp; omega, by simp⟩
      · simp

/-- One byte more is stored. -/
theorem set_be (xs : List UInt8) (k i n : Nat) (hi : i < k) : (xs ++ (List.replicate (k - i) 0 ++ be i n)).set (xs.length + (k - 1 - i)) (UInt8.ofNat (n / 256 ^ i)) = xs ++ (List.replicate (k - (i + 1)) 0 ++ be (i + 1) n) := by
  rw [List.set_append_right _ _ (by omega), Nat.add_sub_cancel_left, List.set_append_left _ _ (by simp; omega)]
  congr 1
  rw [be, show k - i = (k - (i + 1)) + 1 by omega, List.replicate_succ', List.set_append_right _ _ (by simp; omega)]
  rw [List.length_replicate, show k - 1 - i - (k - (i + 1)) = 0 by omega]
  simp
/-- The first byte, with its ones. -/
theorem set_coin (xs : List UInt8) (n : Nat) : (xs ++ be (sz n) n).set xs.length (UInt8.ofNat (n / 256 ^ (sz n - 1) + ones (sz n - 1))) = xs ++ coin n := by
  have hs := sz_le n
  rw [List.set_append_right _ _ (by omega), Nat.sub_self]
  congr 1
  unfold coin
  have e : sz n = sz n - 1 + 1 := by omega
  conv => lhs; rw [e, be]
  simp only [Nat.add_sub_cancel, List.set_cons_zero]
theorem or_ones (k t : Nat) (h1 : 1 ≤ k) (h9 : k ≤ 9) (ht : t < 2 ^ (8 - k)) : t ||| ones (k - 1) = t + ones (k - 1) := by
  have h128 : t < 129 := by
    have : 2 ^ (8 - k) ≤ 2 ^ 7 := Nat.pow_le_pow_right (by decide) (by omega)
    omega
  have h := (by decide +kernel : ∀ k : Fin 10, ∀ t : Fin 129, 1 ≤ k.val → t.val < 2 ^ (8 - k.val) → t.val ||| ones (k.val - 1) = t.val + ones (k.val - 1)) ⟨k, by omega⟩ ⟨t, h128⟩ h1 ht
  exact h

/-- Bytes stand in the order of the numbers. -/
theorem less_be (m : Nat) : ∀ x y : Nat, x / 256 ^ m = y / 256 ^ m → Op.bytesLess (be m x) (be m y) = decide (x < y) := by
  induction m with
  | zero =>
    intro x y h
    simp at h
    subst h
    simp [be, Op.bytesLess]
  | succ m ih =>
    intro x y h
    rw [Nat.pow_succ, ← Nat.div_div_eq_div_mul, ← Nat.div_div_eq_div_mul] at h
    have hx := Nat.div_add_mod x (256 ^ m)
    have hy := Nat.div_add_mod y (256 ^ m)
    have hxm := Nat.mod_lt x (Nat.pow_pos (n := m) (show 0 < 256 by decide))
    have hym := Nat.mod_lt y (Nat.pow_pos (n := m) (show 0 < 256 by decide))
    rw [be, be, Op.bytesLess]
    have hc : (UInt8.ofNat (x / 256 ^ m) < UInt8.ofNat (y / 256 ^ m)) ↔ x / 256 ^ m < y / 256 ^ m := by
      rw [UInt8.lt_iff_toNat_lt]; simp; omega
    have he : (UInt8.ofNat (x / 256 ^ m) == UInt8.ofNat (y / 256 ^ m)) = decide (x / 256 ^ m = y / 256 ^ m) := by
      rw [Bool.eq_iff_iff]; simp [← UInt8.toNat_inj]; omega
    rw [he]
    rcases Nat.lt_trichotomy (x / 256 ^ m) (y / 256 ^ m) with hlt | heq | hgt
    · have hxy : x < y := by
        rcases Nat.lt_or_ge x y with h1 | h1
        · exact h1
        · have := Nat.div_le_div_right (c := 256 ^ m) h1; omega
      simp [hc, hlt, hxy]
    · rw [ih x y heq]
      simp [heq]
    · have hxy : ¬ x < y := fun h1 => by
        have := Nat.div_le_div_right (c := 256 ^ m) (Nat.le_of_lt h1); omega
      simp [hc, hxy]; omega
theorem sz_hi (n : Nat) (h : sz n ≤ 8) : n < 128 ^ sz n := by
  unfold sz at h ⊢
  repeat' split
  all_goals (simp_all <;> omega)
theorem sz_lo (n : Nat) (h : 2 ≤ sz n) : 128 ^ (sz n - 1) ≤ n := by
  unfold sz at h ⊢
  repeat' split
  all_goals (simp_all <;> omega)
theorem sz_mono (a b : Nat) (h : sz a < sz b) : a < b := by
  have ha := sz_le a
  have hb := sz_le b
  have h1 := sz_hi a (by omega)
  have h2 := sz_lo b (by omega)
  have h3 : 128 ^ sz a ≤ 128 ^ (sz b - 1) := Nat.pow_le_pow_right (by decide) (by omega)
  omega
theorem first_lt (a b : Nat) (ha : a < 18446744073709551616) (_hb : b < 18446744073709551616) (h : sz a < sz b) : a / 256 ^ (sz a - 1) + ones (sz a - 1) < b / 256 ^ (sz b - 1) + ones (sz b - 1) := by
  have h1 := top_sz a ha
  have hs := sz_le a
  have ht := sz_le b
  have ho : 2 ^ (8 - sz a) + ones (sz a - 1) ≤ ones (sz b - 1) := by
    generalize sz a = k at *
    generalize sz b = j at *
    clear h1
    have h := (by decide +kernel : ∀ k : Fin 10, ∀ j : Fin 10, 1 ≤ k.val → k.val < j.val → 2 ^ (8 - k.val) + ones (k.val - 1) ≤ ones (j.val - 1)) ⟨k, by omega⟩ ⟨j, by omega⟩ hs.1 h
    exact h
  generalize a / 256 ^ (sz a - 1) = x at *
  generalize b / 256 ^ (sz b - 1) = y at *
  generalize 2 ^ (8 - sz a) = z at *
  omega
theorem coin_nat (n : Nat) (hn : n < 18446744073709551616) : (UInt8.ofNat (n / 256 ^ (sz n - 1) + ones (sz n - 1))).toNat = n / 256 ^ (sz n - 1) + ones (sz n - 1) := by
  have hs := sz_le n
  obtain ⟨_, hlt⟩ := lead_top (sz n) _ hs.1 hs.2 (top_sz n hn)
  rw [UInt8.toNat_ofNat', Nat.mod_eq_of_lt hlt]
theorem less_coin (a b : Nat) (ha : a < 18446744073709551616) (hb : b < 18446744073709551616) : Op.bytesLess (coin a) (coin b) = decide (a < b) := by
  have na := coin_nat a ha
  have nb := coin_nat b hb
  rw [coin, coin, Op.bytesLess]
  rcases Nat.lt_trichotomy (sz a) (sz b) with h | h | h
  · have h1 := first_lt a b ha hb h
    have h2 := sz_mono a b h
    have hc : UInt8.ofNat (a / 256 ^ (sz a - 1) + ones (sz a - 1)) < UInt8.ofNat (b / 256 ^ (sz b - 1) + ones (sz b - 1)) := by rw [UInt8.lt_iff_toNat_lt, na, nb]; exact h1
    simp only [hc, decide_true, Bool.true_or, h2]
  · rw [h] at na ⊢
    generalize sz b = k at *
    have hc : (UInt8.ofNat (a / 256 ^ (k - 1) + ones (k - 1)) < UInt8.ofNat (b / 256 ^ (k - 1) + ones (k - 1))) ↔ a / 256 ^ (k - 1) < b / 256 ^ (k - 1) := by
      rw [UInt8.lt_iff_toNat_lt, na, nb]; omega
    have he : (UInt8.ofNat (a / 256 ^ (k - 1) + ones (k - 1)) == UInt8.ofNat (b / 256 ^ (k - 1) + ones (k - 1))) = decide (a / 256 ^ (k - 1) = b / 256 ^ (k - 1)) := by
      rw [Bool.eq_iff_iff, beq_iff_eq, ← UInt8.toNat_inj, na, nb, decide_eq_true_eq]; omega
    rw [he]
    clear he na nb h
    generalize UInt8.ofNat (a / 256 ^ (k - 1) + ones (k - 1)) = p at *
    generalize UInt8.ofNat (b / 256 ^ (k - 1) + ones (k - 1)) = q at *
    rcases Nat.lt_trichotomy (a / 256 ^ (k - 1)) (b / 256 ^ (k - 1)) with hlt | heq | hgt
    · have hxy : a < b := by
        rcases Nat.lt_or_ge a b with h1 | h1
        · exact h1
        · have := Nat.div_le_div_right (c := 256 ^ (k - 1)) h1; omega
      simp [hc, hlt, hxy]
    · rw [less_be _ a b heq]
      simp [hc, heq]
    · have hxy : ¬ a < b := fun h1 => by
        have := Nat.div_le_div_right (c := 256 ^ (k - 1)) (Nat.le_of_lt h1); omega
      simp only [hc, hxy]; simp; omega
  · have h1 := first_lt b a hb ha h
    have h2 := sz_mono b a h
    have hc : ¬ UInt8.ofNat (a / 256 ^ (sz a - 1) + ones (sz a - 1)) < UInt8.ofNat (b / 256 ^ (sz b - 1) + ones (sz b - 1)) := by rw [UInt8.lt_iff_toNat_lt, na, nb]; omega
    have he : (UInt8.ofNat (a / 256 ^ (sz a - 1) + ones (sz a - 1)) == UInt8.ofNat (b / 256 ^ (sz b - 1) + ones (sz b - 1))) = false := by
      rw [beq_eq_false_iff_ne, ne_eq, ← UInt8.toNat_inj, na, nb]; omega
    have h3 : ¬ a < b := by omega
    simp only [hc, he, h3, decide_false, Bool.false_and, Bool.or_false]
theorem coin_inj (a b : Nat) (ha : a < 18446744073709551616) (hb : b < 18446744073709551616) : coin a = coin b ↔ a = b := by
  refine ⟨fun h => ?_, fun h => by rw [h]⟩
  have h1 := got_coin a ha []
  have h2 := got_coin b hb []
  rw [h, h2] at h1
  exact (Prod.mk.inj h1).1.symm
end Go.Proofs.Ytldaggcopbnehaa.Coin
