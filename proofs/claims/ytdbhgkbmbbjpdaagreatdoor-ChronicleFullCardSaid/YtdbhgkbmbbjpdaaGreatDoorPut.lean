/- Numbers as bytes, over natural numbers: how many bytes, which ones, and back. Nothing of the program. CRC-32C, over natural numbers: bit by bit, byte by byte. Nothing of the program. Frames, over lists of bytes: one, many, cut, turned. Nothing of the program. Contracts of package coin's small functions, and of the document's own 'bits'. Bytes in memory: a slice that reads as bytes, a block that holds bytes. What coin.Put answers, and the law's own 'awake'. -/
import Derived.PlainAid
import Derived.Laws.DeepStrings4
import Derived.Test.YtdbhgkbmbbjpdaaGreatDoorShelf
import Derived.Test.YtdbhgkbmbbjpdaaGreatDoorRows
import Derived.WalkKit
import Derived.ProofKit
import Derived.OpenShut
import Derived.ShutString
import Derived.WalkLawsBesides
import Derived.Lib.Hide
import Derived.Laws.BitsAllLaws
import Derived.Below
import Derived.Lib.ItoaNum
import Derived.Laws.OwnMore
import Derived.Laws.CopyOwn
import Derived.Deep.OwnRows
import Derived.OwnWalk
import Derived.Laws.IdiomStrings
import Derived.StillTailTactics
import Derived.Deep.QuietTactic
import Derived.BigQuiet
namespace Go.Proofs.YtdbhgkbmbbjpdaaGreatDoor.Coin

/-- How many bytes a number takes. -/
def sz (n : Nat) : Nat := if n < 128 then 1 else if n < 16384 then 2 else if n < 2097152 then 3 else if n < 268435456 then 4 else if n < 34359738368 then 5 else if n < 4398046511104 then 6 else if n < 562949953421312 then 7 else if n < 72057594037927936 then 8 else 9
theorem sz_le (n : Nat) : 1 ≤ sz n ∧ sz n ≤ 9 := by
  unfold sz
  repeat' split
  all_goals omega
/-- A byte that begins with so many ones. -/
def ones (k : Nat) : Nat := 256 - 2 ^ (8 - k)
/-- How many bytes there are, by the first one. -/
def lead (b : Nat) : Nat := if b < 128 then 1 else if b < 192 then 2 else if b < 224 then 3 else if b < 240 then 4 else if b < 248 then 5 else if b < 252 then 6 else if b < 254 then 7 else if b < 255 then 8 else 9
theorem lead_le (b : Nat) : 1 ≤ lead b ∧ lead b ≤ 9 := by
  unfold lead
  repeat' split
  all_goals omega
/-- The last m bytes of a number, the highest first. -/
def be : Nat → Nat → List UInt8
  | 0, _ => []
  | m + 1, n => UInt8.ofNat (n / 256 ^ m) :: be m n
theorem length_be (m n : Nat) : (be m n).length = m := by induction m with
  | zero => rfl
  | succ m ih => simp [be, ih]
/-- A number as bytes. -/
def coin (n : Nat) : List UInt8 := UInt8.ofNat (n / 256 ^ (sz n - 1) + ones (sz n - 1)) :: be (sz n - 1) n
theorem length_coin (n : Nat) : (coin n).length = sz n := by
  have := sz_le n
  simp [coin, length_be]; omega
/-- Bytes as a number, the highest first. -/
def num (a : Nat) (l : List UInt8) : Nat := l.foldl (fun a b => a * 256 + b.toNat) a
theorem num_snoc (a : Nat) (l : List UInt8) (b : UInt8) : num a (l ++ [b]) = num a l * 256 + b.toNat := by simp [num]
theorem num_cons (a : Nat) (b : UInt8) (l : List UInt8) : num a (b :: l) = num (a * 256 + b.toNat) l := rfl
theorem num_be (m n : Nat) : num (n / 256 ^ m) (be m n) = n := by
  induction m with
  | zero => simp [be, num]
  | succ m ih =>
    rw [be, num_cons]
    have e : n / 256 ^ (m + 1) * 256 + (UInt8.ofNat (n / 256 ^ m)).toNat = n / 256 ^ m := by
      rw [Nat.pow_succ, ← Nat.div_div_eq_div_mul]; simp; omega
    rw [e, ih]
theorem num_lt (a : Nat) (l : List UInt8) : num a l < (a + 1) * 256 ^ l.length := by
  induction l generalizing a with
  | nil => simp [num]
  | cons b l ih =>
    rw [num_cons]
    refine Nat.lt_of_lt_of_le (ih _) ?_
    have hb := b.toNat_lt
    rw [List.length_cons, Nat.pow_succ, Nat.mul_comm (256 ^ l.length), ← Nat.mul_assoc]
    exact Nat.mul_le_mul_right _ (by omega)
theorem num_div (a : Nat) (l : List UInt8) : num a l / 256 ^ l.length = a := by
  induction l generalizing a with
  | nil => simp [num]
  | cons b l ih =>
    have hb := b.toNat_lt
    rw [num_cons, List.length_cons, Nat.pow_succ, ← Nat.div_div_eq_div_mul, ih]; omega
theorem be_num (a : Nat) (l : List UInt8) : be l.length (num a l) = l := by
  induction l generalizing a with
  | nil => rfl
  | cons b l ih =>
    rw [List.length_cons, be, num_cons, ih, num_div]
    congr 1
    have hb := b.toNat_lt
    apply UInt8.toNat_inj.1
    simp
theorem be_mod (m n : Nat) : be (m + 1) n = be 1 (n / 256 ^ m) ++ be m n := by simp [be]

/-- What is told of some bytes: the number ahead, how many bytes it has, and the error's number. -/
def val (b : UInt8) (r : List UInt8) : Nat := num (b.toNat - ones (lead b.toNat - 1)) (r.take (lead b.toNat - 1))
def got : List UInt8 → Nat × Nat × Nat
  | [] => (0, 0, 5)
  | b :: r => if r.length + 1 < lead b.toNat then (0, 0, 5) else if sz (val b r) = lead b.toNat then (val b r, lead b.toNat, 0) else (0, 0, 4)

theorem ones_le (b : Nat) (h : b < 256) : ones (lead b - 1) ≤ b := by
  have h := (by decide +kernel : ∀ b : Fin 256, ones (lead b.val - 1) ≤ b.val) ⟨b, h⟩
  exact h
theorem top_lt (b : Nat) (h : b < 256) : b - ones (lead b - 1) < 2 ^ (8 - lead b) := by
  have h := (by decide +kernel : ∀ b : Fin 256, b.val - ones (lead b.val - 1) < 2 ^ (8 - lead b.val)) ⟨b, h⟩
  exact h
theorem lead_top (k t : Nat) (h1 : 1 ≤ k) (h9 : k ≤ 9) (ht : t < 2 ^ (8 - k)) : lead (t + ones (k - 1)) = k ∧ t + ones (k - 1) < 256 := by
  have h128 : t < 129 := by
    have : 2 ^ (8 - k) ≤ 2 ^ 7 := Nat.pow_le_pow_right (by decide) (by omega)
    omega
  have h := (by decide +kernel : ∀ k : Fin 10, ∀ t : Fin 129, 1 ≤ k.val → t.val < 2 ^ (8 - k.val) → lead (t.val + ones (k.val - 1)) = k.val ∧ t.val + ones (k.val - 1) < 256) ⟨k, by omega⟩ ⟨t, h128⟩ h1 ht
  exact h
theorem top_sz (n : Nat) (h : n < 18446744073709551616) : n / 256 ^ (sz n - 1) < 2 ^ (8 - sz n) := by
  unfold sz
  repeat' split
  all_goals (simp only [Nat.reduceSub, Nat.reducePow]; omega)
theorem val_lt (b : UInt8) (r : List UInt8) (h : lead b.toNat ≤ r.length + 1) : val b r < 18446744073709551616 := by
  have hb := b.toNat_lt
  have ht := top_lt b.toNat hb
  have hl := lead_le b.toNat
  unfold val
  refine Nat.lt_of_lt_of_le (num_lt _ _) ?_
  have hlen : (r.take (lead b.toNat - 1)).length = lead b.toNat - 1 := by simp; omega
  rw [hlen]
  refine Nat.le_trans (Nat.mul_le_mul_right _ ht) ?_
  generalize lead b.toNat = k at hl
  obtain ⟨h1, h9⟩ := hl
  rcases (by omega : k = 1 ∨ k = 2 ∨ k = 3 ∨ k = 4 ∨ k = 5 ∨ k = 6 ∨ k = 7 ∨ k = 8 ∨ k = 9) with h | h | h | h | h | h | h | h | h <;> subst h <;> decide
theorem got_coin (n : Nat) (hn : n < 18446744073709551616) (r : List UInt8) : got (coin n ++ r) = (n, sz n, 0) := by
  have hs := sz_le n
  obtain ⟨hl, hlt⟩ := lead_top (sz n) _ hs.1 hs.2 (top_sz n hn)
  have hb : (UInt8.ofNat (n / 256 ^ (sz n - 1) + ones (sz n - 1))).toNat = n / 256 ^ (sz n - 1) + ones (sz n - 1) := by
    rw [UInt8.toNat_ofNat', Nat.mod_eq_of_lt hlt]
  have hv : val (UInt8.ofNat (n / 256 ^ (sz n - 1) + ones (sz n - 1))) (be (sz n - 1) n ++ r) = n := by
    unfold val
    rw [hb, hl, List.take_append_of_le_length (by rw [length_be]; exact Nat.le_refl _), List.take_of_length_le (by rw [length_be]; exact Nat.le_refl _), Nat.add_sub_cancel, num_be]
  unfold coin
  simp only [List.cons_append, got]
  rw [hv, hb, hl, if_neg (by rw [List.length_append, length_be]; omega), if_pos rfl]
theorem coin_val (b : UInt8) (r : List UInt8) (h : lead b.toNat ≤ r.length + 1) (hs : sz (val b r) = lead b.toNat) : coin (val b r) = (b :: r).take (lead b.toNat) := by
  have hl := lead_le b.toNat
  have hlen : (r.take (lead b.toNat - 1)).length = lead b.toNat - 1 := by simp; omega
  have e : lead b.toNat = lead b.toNat - 1 + 1 := by omega
  unfold coin
  rw [hs, e, List.take_succ_cons, Nat.add_sub_cancel]
  have h1 : val b r / 256 ^ (lead b.toNat - 1) = b.toNat - ones (lead b.toNat - 1) := by
    have := num_div (b.toNat - ones (lead b.toNat - 1)) (r.take (lead b.toNat - 1))
    rw [hlen] at this; exact this
  have h2 : be (lead b.toNat - 1) (val b r) = r.take (lead b.toNat - 1) := by
    have := be_num (b.toNat - ones (lead b.toNat - 1)) (r.take (lead b.toNat - 1))
    rw [hlen] at this; exact this
  have hb := b.toNat_lt
  have := ones_le b.toNat hb
  rw [h1, h2, Nat.sub_add_cancel this]
  simp
theorem coin_val_iff (b : UInt8) (r : List UInt8) (h : lead b.toNat ≤ r.length + 1) : coin (val b r) = (b :: r).take (lead b.toNat) ↔ sz (val b r) = lead b.toNat := by
  refine ⟨fun e => ?_, coin_val b r h⟩
  have := congrArg List.length e
  rw [length_coin] at this
  rw [this]; simp; omega
theorem got_lt (l : List UInt8) : (got l).1 < 18446744073709551616 ∧ (got l).2.1 ≤ 9 ∧ (got l).2.1 ≤ l.length ∧ (got l).2.2 ≤ 5 := by
  rcases l with _ | ⟨b, r⟩
  · simp [got]
  · simp only [got]
    split
    · simp
    · rename_i h
      split
      · exact ⟨val_lt b r (by omega), (lead_le _).2, by simp; omega, by simp⟩
      · simp

/-- One byte more is stored. -/
theorem set_be (xs : List UInt8) (k i n : Nat) (hi : i < k) : (xs ++ (List.replicate (k - i) 0 ++ be i n)).set (xs.length + (k - 1 - i)) (UInt8.ofNat (n / 256 ^ i)) = xs ++ (List.replicate (k - (i + 1)) 0 ++ be (i + 1) n) := by
  rw [List.set_append_right _ _ (by omega), Nat.add_sub_cancel_left, List.set_append_left _ _ (by simp; omega)]
  congr 1
  rw [be, show k - i = (k - (i + 1)) + 1 by omega, List.replicate_succ', List.set_append_right _ _ (by simp; omega)]
  rw [List.length_replicate, show k - 1 - i - (k - (i + 1)) = 0 by omega]
  simp
/-- The first byte, with its ones. -/
theorem set_coin (xs : List UInt8) (n : Nat) : (xs ++ be (sz n) n).set xs.length (UInt8.ofNat (n / 256 ^ (sz n - 1) + ones (sz n - 1))) = xs ++ coin n := by
  have hs := sz_le n
  rw [List.set_append_right _ _ (by omega), Nat.sub_self]
  congr 1
  unfold coin
  have e : sz n = sz n - 1 + 1 := by omega
  conv => lhs; rw [e, be]
  simp only [Nat.add_sub_cancel, List.set_cons_zero]
theorem or_ones (k t : Nat) (h1 : 1 ≤ k) (h9 : k ≤ 9) (ht : t < 2 ^ (8 - k)) : t ||| ones (k - 1) = t + ones (k - 1) := by
  have h128 : t < 129 := by
    have : 2 ^ (8 - k) ≤ 2 ^ 7 := Nat.pow_le_pow_right (by decide) (by omega)
    omega
  have h := (by decide +kernel : ∀ k : Fin 10, ∀ t : Fin 129, 1 ≤ k.val → t.val < 2 ^ (8 - k.val) → t.val ||| ones (k.val - 1) = t.val + ones (k.val - 1)) ⟨k, by omega⟩ ⟨t, h128⟩ h1 ht
  exact h

/-- Bytes stand in the order of the numbers. -/
theorem less_be (m : Nat) : ∀ x y : Nat, x / 256 ^ m = y / 256 ^ m → Op.bytesLess (be m x) (be m y) = decide (x < y) := by
  induction m with
  | zero =>
    intro x y h
    simp at h
    subst h
    simp [be, Op.bytesLess]
  | succ m ih =>
    intro x y h
    rw [Nat.pow_succ, ← Nat.div_div_eq_div_mul, ← Nat.div_div_eq_div_mul] at h
    have hx := Nat.div_add_mod x (256 ^ m)
    have hy := Nat.div_add_mod y (256 ^ m)
    have hxm := Nat.mod_lt x (Nat.pow_pos (n := m) (show 0 < 256 by decide))
    have hym := Nat.mod_lt y (Nat.pow_pos (n := m) (show 0 < 256 by decide))
    rw [be, be, Op.bytesLess]
    have hc : (UInt8.ofNat (x / 256 ^ m) < UInt8.ofNat (y / 256 ^ m)) ↔ x / 256 ^ m < y / 256 ^ m := by
      rw [UInt8.lt_iff_toNat_lt]; simp; omega
    have he : (UInt8.ofNat (x / 256 ^ m) == UInt8.ofNat (y / 256 ^ m)) = decide (x / 256 ^ m = y / 256 ^ m) := by
      rw [Bool.eq_iff_iff]; simp [← UInt8.toNat_inj]; omega
    rw [he]
    rcases Nat.lt_trichotomy (x / 256 ^ m) (y / 256 ^ m) with hlt | heq | hgt
    · have hxy : x < y := by
        rcases Nat.lt_or_ge x y with h1 | h1
        · exact h1
        · have := Nat.div_le_div_right (c := 256 ^ m) h1; omega
      simp [hc, hlt, hxy]
    · rw [ih x y heq]
      simp [heq]
    · have hxy : ¬ x < y := fun h1 => by
        have := Nat.div_le_div_right (c := 256 ^ m) (Nat.le_of_lt h1); omega
      simp [hc, hxy]; omega
theorem sz_hi (n : Nat) (h : sz n ≤ 8) : n < 128 ^ sz n := by
  unfold sz at h ⊢
  repeat' split
  all_goals (simp_all <;> omega)
theorem sz_lo (n : Nat) (h : 2 ≤ sz n) : 128 ^ (sz n - 1) ≤ n := by
  unfold sz at h ⊢
  repeat' split
  all_goals (simp_all <;> omega)
theorem sz_mono (a b : Nat) (h : sz a < sz b) : a < b := by
  have ha := sz_le a
  have hb := sz_le b
  have h1 := sz_hi a (by omega)
  have h2 := sz_lo b (by omega)
  have h3 : 128 ^ sz a ≤ 128 ^ (sz b - 1) := Nat.pow_le_pow_right (by decide) (by omega)
  omega
theorem first_lt (a b : Nat) (ha : a < 18446744073709551616) (_hb : b < 18446744073709551616) (h : sz a < sz b) : a / 256 ^ (sz a - 1) + ones (sz a - 1) < b / 256 ^ (sz b - 1) + ones (sz b - 1) := by
  have h1 := top_sz a ha
  have hs := sz_le a
  have ht := sz_le b
  have ho : 2 ^ (8 - sz a) + ones (sz a - 1) ≤ ones (sz b - 1) := by
    generalize sz a = k at *
    generalize sz b = j at *
    clear h1
    have h := (by decide +kernel : ∀ k : Fin 10, ∀ j : Fin 10, 1 ≤ k.val → k.val < j.val → 2 ^ (8 - k.val) + ones (k.val - 1) ≤ ones (j.val - 1)) ⟨k, by omega⟩ ⟨j, by omega⟩ hs.1 h
    exact h
  generalize a / 256 ^ (sz a - 1) = x at *
  generalize b / 256 ^ (sz b - 1) = y at *
  generalize 2 ^ (8 - sz a) = z at *
  omega
theorem coin_nat (n : Nat) (hn : n < 18446744073709551616) : (UInt8.ofNat (n / 256 ^ (sz n - 1) + ones (sz n - 1))).toNat = n / 256 ^ (sz n - 1) + ones (sz n - 1) := by
  have hs := sz_le n
  obtain ⟨_, hlt⟩ := lead_top (sz n) _ hs.1 hs.2 (top_sz n hn)
  rw [UInt8.toNat_ofNat', Nat.mod_eq_of_lt hlt]
theorem less_coin (a b : Nat) (ha : a < 18446744073709551616) (hb : b < 18446744073709551616) : Op.bytesLess (coin a) (coin b) = decide (a < b) := by
  have na := coin_nat a ha
  have nb := coin_nat b hb
  rw [coin, coin, Op.bytesLess]
  rcases Nat.lt_trichotomy (sz a) (sz b) with h | h | h
  · have h1 := first_lt a b ha hb h
    have h2 := sz_mono a b h
    have hc : UInt8.ofNat (a / 256 ^ (sz a - 1) + ones (sz a - 1)) < UInt8.ofNat (b / 256 ^ (sz b - 1) + ones (sz b - 1)) := by rw [UInt8.lt_iff_toNat_lt, na, nb]; exact h1
    simp only [hc, decide_true, Bool.true_or, h2]
  · rw [h] at na ⊢
    generalize sz b = k at *
    have hc : (UInt8.ofNat (a / 256 ^ (k - 1) + ones (k - 1)) < UInt8.ofNat (b / 256 ^ (k - 1) + ones (k - 1))) ↔ a / 256 ^ (k - 1) < b / 256 ^ (k - 1) := by
      rw [UInt8.lt_iff_toNat_lt, na, nb]; omega
    have he : (UInt8.ofNat (a / 256 ^ (k - 1) + ones (k - 1)) == UInt8.ofNat (b / 256 ^ (k - 1) + ones (k - 1))) = decide (a / 256 ^ (k - 1) = b / 256 ^ (k - 1)) := by
      rw [Bool.eq_iff_iff, beq_iff_eq, ← UInt8.toNat_inj, na, nb, decide_eq_true_eq]; omega
    rw [he]
    clear he na nb h
    generalize UInt8.ofNat (a / 256 ^ (k - 1) + ones (k - 1)) = p at *
    generalize UInt8.ofNat (b / 256 ^ (k - 1) + ones (k - 1)) = q at *
    rcases Nat.lt_trichotomy (a / 256 ^ (k - 1)) (b / 256 ^ (k - 1)) with hlt | heq | hgt
    · have hxy : a < b := by
        rcases Nat.lt_or_ge a b with h1 | h1
        · exact h1
        · have := Nat.div_le_div_right (c := 256 ^ (k - 1)) h1; omega
      simp [hc, hlt, hxy]
    · rw [less_be _ a b heq]
      simp [hc, heq]
    · have hxy : ¬ a < b := fun h1 => by
        have := Nat.div_le_div_right (c := 256 ^ (k - 1)) (Nat.le_of_lt h1); omega
      simp only [hc, hxy]; simp; omega
  · have h1 := first_lt b a hb ha h
    have h2 := sz_mono b a h
    have hc : ¬ UInt8.ofNat (a / 256 ^ (sz a - 1) + ones (sz a - 1)) < UInt8.ofNat (b / 256 ^ (sz b - 1) + ones (sz b - 1)) := by rw [UInt8.lt_iff_toNat_lt, na, nb]; omega
    have he : (UInt8.ofNat (a / 256 ^ (sz a - 1) + ones (sz a - 1)) == UInt8.ofNat (b / 256 ^ (sz b - 1) + ones (sz b - 1))) = false := by
      rw [beq_eq_false_iff_ne, ne_eq, ← UInt8.toNat_inj, na, nb]; omega
    have h3 : ¬ a < b := by omega
    simp only [hc, he, h3, decide_false, Bool.false_and, Bool.or_false]
theorem coin_inj (a b : Nat) (ha : a < 18446744073709551616) (hb : b < 18446744073709551616) : coin a = coin b ↔ a = b := by
  refine ⟨fun h => ?_, fun h => by rw [h]⟩
  have h1 := got_coin a ha []
  have h2 := got_coin b hb []
  rw [h, h2] at h1
  exact (Prod.mk.inj h1).1.symm
end Go.Proofs.YtdbhgkbmbbjpdaaGreatDoor.Coin
namespace Go.Proofs.YtdbhgkbmbbjpdaaGreatDoor.Tal

/-- A line one place lower, turned if a one fell out. -/
def low (x : Nat) : Nat := if x % 2 = 1 then x / 2 ^^^ 2197175160 else x / 2
def lowN : Nat → Nat → Nat
  | 0, x => x
  | k + 1, x => low (lowN k x)
theorem xor_mod2 (x y : Nat) : (x ^^^ y) % 2 = (x % 2 + y % 2) % 2 := by
  have h := Nat.xor_mod_two_pow (a := x) (b := y) (n := 1)
  rw [Nat.pow_one] at h
  rw [h]
  rcases Nat.mod_two_eq_zero_or_one x with hx | hx <;> rcases Nat.mod_two_eq_zero_or_one y with hy | hy <;> rw [hx, hy] <;> rfl
theorem low_xor (x y : Nat) : low (x ^^^ y) = low x ^^^ low y := by
  unfold low
  have hd : (x ^^^ y) / 2 = x / 2 ^^^ y / 2 := Nat.xor_div_two
  rw [xor_mod2, hd]
  rcases Nat.mod_two_eq_zero_or_one x with hx | hx <;> rcases Nat.mod_two_eq_zero_or_one y with hy | hy <;> simp only [hx, hy] <;> simp
  · rw [Nat.xor_assoc]
  · rw [Nat.xor_assoc, Nat.xor_assoc, Nat.xor_comm 2197175160 (y / 2)]
  · rw [Nat.xor_assoc, Nat.xor_comm (y / 2), ← Nat.xor_assoc 2197175160, Nat.xor_self, Nat.zero_xor]
theorem lowN_xor (k x y : Nat) : lowN k (x ^^^ y) = lowN k x ^^^ lowN k y := by
  induction k with
  | zero => rfl
  | succ k ih => simp only [lowN, ih, low_xor]
theorem low_lt (x : Nat) (h : x < 4294967296) : low x < 4294967296 := by
  unfold low
  split
  · exact Nat.xor_lt_two_pow (n := 32) (by omega) (by omega)
  · omega
theorem lowN_lt (k x : Nat) (h : x < 4294967296) : lowN k x < 4294967296 := by
  induction k with
  | zero => exact h
  | succ k ih => exact low_lt _ ih
theorem low_double (x : Nat) : low (2 * x) = x := by unfold low; rw [if_neg (by omega)]; omega
theorem lowN_succ (k x : Nat) : lowN (k + 1) x = lowN k (low x) := by
  induction k with
  | zero => rfl
  | succ k ih => rw [lowN, ih]; rfl
theorem lowN_shift (k x : Nat) : lowN k (x * 2 ^ k) = x := by
  induction k generalizing x with
  | zero => simp [lowN]
  | succ k ih =>
    have e : x * 2 ^ (k + 1) = 2 * (x * 2 ^ k) := by rw [Nat.pow_succ, ← Nat.mul_assoc, Nat.mul_comm]
    rw [lowN_succ, e, low_double, ih]
theorem low_zero (x : Nat) (h : x < 4294967296) (h0 : low x = 0) : x = 0 := by
  unfold low at h0
  split at h0
  · have : x / 2 = 2197175160 := by
      have h1 : x / 2 ^^^ 2197175160 ^^^ 2197175160 = 0 ^^^ 2197175160 := by rw [h0]
      rw [Nat.xor_assoc, Nat.xor_self, Nat.xor_zero, Nat.zero_xor] at h1
      exact h1
    omega
  · omega
theorem lowN_zero (k x : Nat) (h : x < 4294967296) : lowN k x = 0 ↔ x = 0 := by
  constructor
  · intro h0
    induction k with
    | zero => exact h0
    | succ k ih => exact ih (low_zero _ (lowN_lt k x h) h0)
  · rintro rfl
    induction k with
    | zero => rfl
    | succ k ih => rw [lowN, ih]; rfl

/-- A line of the table. -/
def tab (b : Nat) : Nat := lowN 8 b
theorem tab_lt (b : Nat) (h : b < 256) : tab b < 4294967296 := lowN_lt 8 b (by omega)
/-- One byte more. -/
def step (r : Nat) (b : UInt8) : Nat := lowN 8 (r ^^^ b.toNat)
theorem join_xor (i x y : Nat) (hy : y < 2 ^ i) : x * 2 ^ i ^^^ y = x * 2 ^ i + y := by
  apply Nat.eq_of_testBit_eq
  intro j
  rw [Nat.testBit_xor, Nat.mul_comm x, Nat.testBit_two_pow_mul, Nat.testBit_two_pow_mul_add _ hy]
  by_cases h : j < i
  · simp [h, show ¬ i ≤ j by omega]
  · have : y.testBit j = false := Nat.testBit_lt_two_pow (Nat.lt_of_lt_of_le hy (Nat.pow_le_pow_right (by decide) (by omega)))
    simp [h, this]; intro h2; omega
theorem step_eq (r : Nat) (b : UInt8) : step r b = r / 256 ^^^ tab (r % 256 ^^^ b.toNat) := by
  unfold step tab
  have e : r = r / 256 * 2 ^ 8 ^^^ r % 256 := by rw [join_xor 8 _ _ (by omega)]; omega
  conv => lhs; rw [e, Nat.xor_assoc, lowN_xor, lowN_shift]
def crc (r : Nat) (l : List UInt8) : Nat := l.foldl step r
theorem step_lt (r : Nat) (b : UInt8) (h : r < 4294967296) : step r b < 4294967296 := by
  have hb : b.toNat < 256 := b.toNat_lt
  exact lowN_lt 8 _ (Nat.xor_lt_two_pow (n := 32) (by omega) (by omega))
theorem crc_lt (r : Nat) (l : List UInt8) (h : r < 4294967296) : crc r l < 4294967296 := by
  induction l generalizing r with
  | nil => exact h
  | cons b l ih => exact ih _ (step_lt r b h)
theorem crc_append (r : Nat) (l m : List UInt8) : crc r (l ++ m) = crc (crc r l) m := by simp [crc]
theorem crc_snoc (r : Nat) (l : List UInt8) (b : UInt8) : crc r (l ++ [b]) = step (crc r l) b := by simp [crc]
/-- The sum of bytes, behind others of which the sum is known. -/
def more (s : Nat) (l : List UInt8) : Nat := 4294967295 - crc (4294967295 - s) l
theorem more_lt (s : Nat) (l : List UInt8) : more s l < 4294967296 := by unfold more; omega
theorem more_more (s : Nat) (l m : List UInt8) : more (more s l) m = more s (l ++ m) := by
  have h := crc_lt (4294967295 - s) l (by omega)
  unfold more
  rw [crc_append]
  congr 2; omega

/-- A bit of some bytes: of each byte the lowest first. -/
def bitAt (l : List UInt8) (i : Nat) : Nat := (l.getD (i / 8) 0).toNat / 2 ^ (i % 8) % 2
/-- Bit by bit. -/
def feed (e : Nat → Nat) (r : Nat) : Nat → Nat
  | 0 => r
  | i + 1 => low (feed e r i ^^^ e i)
theorem feed_bits (e : Nat → Nat) (r v s : Nat) : ∀ t, (∀ j, j < t → e (s + j) = v / 2 ^ j % 2) → feed e r (s + t) = lowN t (feed e r s ^^^ v % 2 ^ t) := by
  intro t
  induction t with
  | zero => intro _; simp [lowN, Nat.mod_one]
  | succ t ih =>
    intro h
    rw [← Nat.add_assoc, feed, ih fun j hj => h j (by omega), h t (by omega), lowN]
    have e1 : v % 2 ^ (t + 1) = v / 2 ^ t % 2 * 2 ^ t ^^^ v % 2 ^ t := by
      rw [join_xor _ _ _ (Nat.mod_lt _ (Nat.two_pow_pos t)), Nat.mod_pow_succ, Nat.mul_comm, Nat.add_comm]
    have e2 : lowN t (feed e r s ^^^ v % 2 ^ (t + 1)) = lowN t (feed e r s ^^^ v % 2 ^ t) ^^^ v / 2 ^ t % 2 := by
      rw [e1, Nat.xor_comm (v / 2 ^ t % 2 * 2 ^ t), ← Nat.xor_assoc, lowN_xor, lowN_shift]
    rw [e2]
theorem feed_byte (l : List UInt8) (r j t : Nat) (ht : t ≤ 8) : feed (bitAt l) r (8 * j + t) = lowN t (feed (bitAt l) r (8 * j) ^^^ (l.getD j 0).toNat % 2 ^ t) := by
  refine feed_bits _ _ _ _ t fun i hi => ?_
  unfold bitAt
  have e1 : (8 * j + i) / 8 = j := by omega
  have e2 : (8 * j + i) % 8 = i := by omega
  rw [e1, e2]
theorem feed_crc (l : List UInt8) (r j : Nat) (hj : j ≤ l.length) : feed (bitAt l) r (8 * j) = crc r (l.take j) := by
  induction j with
  | zero => rfl
  | succ j ih =>
    have hb : (l.getD j 0).toNat < 256 := UInt8.toNat_lt _
    have e : l.getD j 0 = l[j] := by simp [List.getD, show j < l.length by omega]
    rw [Nat.mul_succ, feed_byte l r j 8 (by omega), ih (by omega), List.take_succ_eq_append_getElem (by omega), crc_snoc, step, Nat.mod_eq_of_lt (by simpa using hb), e]

theorem feed_xor (e f : Nat → Nat) (r s : Nat) (i : Nat) : feed e r i ^^^ feed f s i = feed (fun j => e j ^^^ f j) (r ^^^ s) i := by
  induction i with
  | zero => rfl
  | succ i ih =>
    simp only [feed]
    rw [← low_xor, ← ih]
    congr 1
    simp only [Nat.xor_assoc]
    congr 1
    rw [← Nat.xor_assoc (e i), Nat.xor_comm (e i), Nat.xor_assoc]
theorem feed_ahead (e : Nat → Nat) (k : Nat) (h : ∀ i, i < k → e i = 0) : feed e 0 k = 0 := by
  induction k with
  | zero => rfl
  | succ k ih => rw [feed, ih fun i hi => h i (by omega), h k (by omega)]; rfl
theorem feed_behind (e : Nat → Nat) (r s : Nat) : ∀ t, (∀ j, j < t → e (s + j) = 0) → feed e r (s + t) = lowN t (feed e r s) := by
  intro t h
  have := feed_bits e r 0 s t fun j hj => by rw [h j hj]; simp
  simpa using this
/-- Of bits that are turned, m of them at most 32, one behind the other. -/
theorem burst (e : Nat → Nat) (k m n v : Nat) (hm : m ≤ 32) (hn : k + m ≤ n) (h1 : ∀ i, i < k → e i = 0) (h2 : ∀ j, j < m → e (k + j) = v / 2 ^ j % 2) (h3 : ∀ i, k + m ≤ i → i < n → e i = 0) : feed e 0 n = 0 ↔ v % 2 ^ m = 0 := by
  have a := feed_ahead e k h1
  have b := feed_bits e 0 v k m h2
  rw [a, Nat.zero_xor] at b
  have c := feed_behind e 0 (k + m) (n - (k + m)) fun j hj => h3 _ (by omega) (by omega)
  rw [b, show k + m + (n - (k + m)) = n by omega] at c
  have hv : v % 2 ^ m < 4294967296 := by
    have := Nat.mod_lt v (Nat.two_pow_pos m)
    have := Nat.pow_le_pow_right (n := 2) (by decide) hm
    omega
  rw [c, lowN_zero _ _ (lowN_lt _ _ hv), lowN_zero _ _ hv]
theorem crc_feed (l : List UInt8) (r : Nat) : crc r l = feed (bitAt l) r (8 * l.length) := by
  rw [feed_crc l r l.length (Nat.le_refl _), List.take_length]
theorem more_burst (p q : List UInt8) (hl : q.length = p.length) (k m v : Nat) (hm : m ≤ 32) (hn : k + m ≤ 8 * p.length)
    (h1 : ∀ i, i < 8 * p.length → bitAt q i = (bitAt p i + if k ≤ i ∧ i < k + m then v / 2 ^ (i - k) % 2 else 0) % 2) : more 0 q = more 0 p ↔ v % 2 ^ m = 0 := by
  have e : more 0 q = more 0 p ↔ crc 4294967295 q ^^^ crc 4294967295 p = 0 := by
    have h1 := crc_lt 4294967295 q (by omega)
    have h2 := crc_lt 4294967295 p (by omega)
    have h3 : crc 4294967295 q ^^^ crc 4294967295 p = 0 ↔ crc 4294967295 q = crc 4294967295 p := by
      constructor
      · intro h
        have := congrArg (· ^^^ crc 4294967295 p) h
        simpa [Nat.xor_assoc] using this
      · intro h; rw [h, Nat.xor_self]
    rw [h3]
    unfold more
    simp only [Nat.sub_zero]
    omega
  rw [e, crc_feed, crc_feed, hl, feed_xor, Nat.xor_self]
  have hx : ∀ i, i < 8 * p.length → bitAt q i ^^^ bitAt p i = if k ≤ i ∧ i < k + m then v / 2 ^ (i - k) % 2 else 0 := by
    intro i hi
    rw [h1 i hi]
    have hp : bitAt p i = 0 ∨ bitAt p i = 1 := by unfold bitAt; omega
    generalize hy : (if k ≤ i ∧ i < k + m then v / 2 ^ (i - k) % 2 else 0) = y
    have hy2 : y = 0 ∨ y = 1 := by subst hy; split <;> omega
    rcases hp with h | h <;> rcases hy2 with h' | h' <;> rw [h, h'] <;> rfl
  refine burst _ k m _ v hm hn (fun i hi => ?_) (fun j hj => ?_) (fun i hi hin => ?_)
  · rw [hx i (by omega), if_neg (by omega)]
  · rw [hx (k + j) (by omega), if_pos (by omega), Nat.add_sub_cancel_left]
  · rw [hx i hin, if_neg (by omega)]
theorem tab_xor (a b : Nat) : tab (a ^^^ b) = tab a ^^^ tab b := lowN_xor 8 a b
theorem tab_inj (a b : Nat) (ha : a < 256) (hb : b < 256) : tab a = tab b ↔ a = b := by
  constructor
  · intro h
    have h0 : tab (a ^^^ b) = 0 := by rw [tab_xor, h, Nat.xor_self]
    have hl : a ^^^ b < 256 := Nat.xor_lt_two_pow (n := 8) ha hb
    have := (lowN_zero 8 _ (by omega)).1 h0
    have h2 := congrArg (· ^^^ b) this
    simpa [Nat.xor_assoc] using h2
  · rintro rfl; rfl
/-- A bit of a byte is turned. -/
theorem bit_turn (b : UInt8) (t s : Nat) (ht : t < 8) (hs : s < 8) : (b.toNat ^^^ 2 ^ t) / 2 ^ s % 2 = (b.toNat / 2 ^ s % 2 + if s = t then 1 else 0) % 2 := by
  have hb : b.toNat < 256 := b.toNat_lt
  have h := (by decide +kernel : ∀ b : Fin 256, ∀ t : Fin 8, ∀ s : Fin 8, (b.val ^^^ 2 ^ t.val) / 2 ^ s.val % 2 = (b.val / 2 ^ s.val % 2 + if s.val = t.val then 1 else 0) % 2) ⟨b.toNat, hb⟩ ⟨t, ht⟩ ⟨s, hs⟩
  exact h
theorem bitAt_turn (l : List UInt8) (n : Nat) (hn : n / 8 < l.length) (i : Nat) (hi : i < 8 * l.length) : bitAt (l.set (n / 8) (UInt8.ofNat ((l[n / 8]).toNat ^^^ 2 ^ (n % 8)))) i = (bitAt l i + if i = n then 1 else 0) % 2 := by
  unfold bitAt
  have hi8 : i / 8 < l.length := by omega
  by_cases h : i / 8 = n / 8
  · have hlt : (l[n / 8]).toNat ^^^ 2 ^ (n % 8) < 256 := Nat.xor_lt_two_pow (n := 8) (UInt8.toNat_lt _) (Nat.lt_of_lt_of_le (Nat.pow_lt_pow_right (by decide) (Nat.mod_lt n (by decide))) (by decide))
    rw [h]
    have e1 : (l.set (n / 8) (UInt8.ofNat ((l[n / 8]).toNat ^^^ 2 ^ (n % 8)))).getD (n / 8) 0 = UInt8.ofNat ((l[n / 8]).toNat ^^^ 2 ^ (n % 8)) := by simp [List.getD, hn]
    have e2 : l.getD (n / 8) 0 = l[n / 8] := by simp [List.getD, hn]
    rw [e1, e2, UInt8.toNat_ofNat', Nat.mod_eq_of_lt hlt, bit_turn _ _ _ (by omega) (by omega)]
    congr 2
    by_cases e : i = n
    · rw [if_pos (by rw [e]), if_pos e]
    · rw [if_neg (by omega), if_neg e]
  · have e1 : (l.set (n / 8) (UInt8.ofNat ((l[n / 8]).toNat ^^^ 2 ^ (n % 8)))).getD (i / 8) 0 = l.getD (i / 8) 0 := by
      simp only [List.getD]
      rw [List.getElem?_set_ne (by omega)]
    rw [e1, if_neg (by intro e; exact h (by rw [e]))]
    omega
end Go.Proofs.YtdbhgkbmbbjpdaaGreatDoor.Tal
namespace Go.Proofs.YtdbhgkbmbbjpdaaGreatDoor.Frm
open Coin Tal

/-- A sum's bytes, the lowest first. -/
def tailb (s : Nat) : List UInt8 := [UInt8.ofNat s, UInt8.ofNat (s / 256), UInt8.ofNat (s / 65536), UInt8.ofNat (s / 16777216)]
def head (kind : UInt8) (p : List UInt8) : List UInt8 := coin p.length ++ kind :: p
/-- A frame. -/
def pack (kind : UInt8) (p : List UInt8) : List UInt8 := head kind p ++ tailb (more 0 (head kind p))
theorem length_head (kind : UInt8) (p : List UInt8) : (head kind p).length = sz p.length + 1 + p.length := by simp [head, length_coin]; omega
theorem length_tailb (s : Nat) : (tailb s).length = 4 := rfl
theorem length_pack (kind : UInt8) (p : List UInt8) : (pack kind p).length = sz p.length + 1 + p.length + 4 := by rw [pack, List.length_append, length_head, length_tailb]
theorem tailb_inj (a b : Nat) (ha : a < 4294967296) (hb : b < 4294967296) (h : tailb a = tailb b) : a = b := by
  simp only [tailb, List.cons.injEq, and_true] at h
  obtain ⟨h0, h1, h2, h3⟩ := h
  have e0 := congrArg UInt8.toNat h0
  have e1 := congrArg UInt8.toNat h1
  have e2 := congrArg UInt8.toNat h2
  have e3 := congrArg UInt8.toNat h3
  simp at e0 e1 e2 e3
  omega

/-- What stands at the beginning of some bytes: how many bytes the frame has in all, its bytes, its kind; and the error's number. -/
def wid (r : List UInt8) : Nat := (got r).2.1
def cnt (r : List UInt8) : Nat := (got r).1
def size (r : List UInt8) : Nat := wid r + 1 + cnt r + 4
def body (r : List UInt8) : List UInt8 := (r.drop (wid r + 1)).take (cnt r)
def kind (r : List UInt8) : UInt8 := r.getD (wid r) 0
def summed (r : List UInt8) : List UInt8 := r.take (wid r + 1 + cnt r)
def summ (r : List UInt8) : List UInt8 := (r.drop (wid r + 1 + cnt r)).take 4
def err (r : List UInt8) : Nat :=
  if (got r).2.2 ≠ 0 then (got r).2.2 else if 1048576 < cnt r then 6 else if r.length < size r then 5 else if tailb (more 0 (summed r)) = summ r then 0 else 4

theorem got_len (r : List UInt8) (h : (got r).2.2 = 0) : sz (cnt r) = wid r ∧ coin (cnt r) = r.take (wid r) ∧ 1 ≤ wid r ∧ wid r ≤ r.length ∧ cnt r < 18446744073709551616 := by
  unfold cnt wid
  rcases r with _ | ⟨b, r⟩
  · simp [got] at h
  · simp only [got] at h ⊢
    by_cases h1 : r.length + 1 < lead b.toNat
    · rw [if_pos h1] at h; simp at h
    · rw [if_neg h1] at h ⊢
      by_cases h2 : sz (val b r) = lead b.toNat
      · rw [if_pos h2]
        exact ⟨h2, coin_val b r (by omega) h2, (lead_le _).1, by simp; omega, val_lt b r (by omega)⟩
      · rw [if_neg h2] at h; simp at h
theorem err_ok (r : List UInt8) (h : err r = 0) : (got r).2.2 = 0 ∧ cnt r ≤ 1048576 ∧ size r ≤ r.length ∧ tailb (more 0 (summed r)) = summ r := by
  unfold err at h
  split at h
  · omega
  · split at h
    · omega
    · split at h
      · omega
      · split at h
        · refine ⟨by omega, by omega, by omega, by assumption⟩
        · omega
theorem err_le (r : List UInt8) : err r ≤ 6 := by
  have := (got_lt r).2.2.2
  unfold err
  repeat' split
  all_goals omega

/-- Some bytes that begin with a frame. -/
theorem of_pack (k : UInt8) (p r : List UInt8) (hp : p.length ≤ 1048576) : wid (pack k p ++ r) = sz p.length ∧ cnt (pack k p ++ r) = p.length ∧ (got (pack k p ++ r)).2.2 = 0 ∧ size (pack k p ++ r) = (pack k p).length := by
  have h := got_coin p.length (by omega) (k :: p ++ tailb (more 0 (head k p)) ++ r)
  have e : pack k p ++ r = coin p.length ++ (k :: p ++ tailb (more 0 (head k p)) ++ r) := by simp [pack, head]
  unfold size wid cnt
  rw [length_pack, e, h]
  exact ⟨rfl, rfl, rfl, rfl⟩
theorem err_pack (k : UInt8) (p r : List UInt8) (hp : p.length ≤ 1048576) : err (pack k p ++ r) = 0 ∧ size (pack k p ++ r) = (pack k p).length ∧ body (pack k p ++ r) = p ∧ kind (pack k p ++ r) = k := by
  obtain ⟨h1, h2, h3, h4⟩ := of_pack k p r hp
  have hs : summed (pack k p ++ r) = head k p := by
    unfold summed
    rw [h1, h2, pack, List.append_assoc, List.take_append_of_le_length (by rw [length_head]; omega), List.take_of_length_le (by rw [length_head]; omega)]
  have ht : summ (pack k p ++ r) = tailb (more 0 (head k p)) := by
    unfold summ
    rw [h1, h2, pack, List.append_assoc, ← length_head k p, List.drop_left, List.take_append_of_le_length (by simp [tailb]), List.take_of_length_le (by simp [tailb])]
  refine ⟨?_, h4, ?_, ?_⟩
  · unfold err
    rw [h3, h2, h4, hs, ht, if_neg (by omega), if_neg (by omega), if_neg (by simp), if_pos rfl]
  · unfold body
    have e : pack k p ++ r = (coin p.length ++ [k]) ++ (p ++ (tailb (more 0 (head k p)) ++ r)) := by simp [pack, head]
    have hl : (coin p.length ++ [k]).length = sz p.length + 1 := by simp [length_coin]
    rw [h1, h2, e, ← hl, List.drop_left, List.take_left]
  · unfold kind
    have e : pack k p ++ r = coin p.length ++ (k :: (p ++ (tailb (more 0 (head k p)) ++ r))) := by simp [pack, head]
    rw [h1, e, List.getD, List.getElem?_append_right (by rw [length_coin]; omega), length_coin, Nat.sub_self]
    rfl
/-- A frame that is cut. -/
theorem got_cut (n : Nat) (hn : n < 18446744073709551616) (j : Nat) (h : j < sz n) : got ((coin n).take j) = (0, 0, 5) := by
  rcases j with _ | j
  · simp [got]
  · have hs := sz_le n
    obtain ⟨hl, hlt⟩ := lead_top (sz n) _ hs.1 hs.2 (top_sz n hn)
    have hb : (UInt8.ofNat (n / 256 ^ (sz n - 1) + ones (sz n - 1))).toNat = n / 256 ^ (sz n - 1) + ones (sz n - 1) := by
      rw [UInt8.toNat_ofNat', Nat.mod_eq_of_lt hlt]
    unfold coin
    rw [List.take_succ_cons]
    simp only [got]
    rw [hb, hl, if_pos (by simp [length_be]; omega)]
theorem err_cut (k : UInt8) (p : List UInt8) (hp : p.length ≤ 1048576) (j : Nat) (h : j < (pack k p).length) : err ((pack k p).take j) = 5 := by
  rw [length_pack] at h
  by_cases hj : j < sz p.length
  · have e : (pack k p).take j = (coin p.length).take j := by
      rw [pack, head, List.append_assoc, List.take_append_of_le_length (by rw [length_coin]; omega)]
    unfold err
    rw [e, got_cut _ (by omega) _ hj]
    rfl
  · have e : (pack k p).take j = coin p.length ++ ((k :: p ++ tailb (more 0 (head k p))).take (j - sz p.length)) := by
      have e1 : pack k p = coin p.length ++ (k :: p ++ tailb (more 0 (head k p))) := by simp [pack, head]
      rw [e1, List.take_append, length_coin, List.take_of_length_le (by rw [length_coin]; omega)]
    have hg := got_coin p.length (by omega) ((k :: p ++ tailb (more 0 (head k p))).take (j - sz p.length))
    rw [← e] at hg
    have hl : ((pack k p).take j).length = j := by rw [List.length_take, length_pack]; omega
    unfold err size wid cnt
    rw [hg, hl, if_neg (by simp), if_neg (by simp; omega), if_pos (by simp; omega)]

/-- Frames, one behind the other, from a on, up to b. -/
def chain (l : List UInt8) : Nat → List Nat → Nat → Prop
  | a, [], b => a = b
  | a, x :: xs, b => x = a ∧ a < l.length ∧ err (l.drop a) = 0 ∧ chain l (a + size (l.drop a)) xs b
/-- There they end, and why. -/
def ends (l : List UInt8) (b e : Nat) : Prop := (b = l.length ∧ e = 0) ∨ (b < l.length ∧ err (l.drop b) = e ∧ e ≠ 0)
theorem chain_le (l : List UInt8) (xs : List Nat) : ∀ a b, a ≤ l.length → chain l a xs b → a ≤ b ∧ b ≤ l.length := by
  induction xs with
  | nil => intro a b h hc; have : a = b := hc; omega
  | cons x xs ih =>
    intro a b h hc
    obtain ⟨rfl, h1, h2, h3⟩ := hc
    have := (err_ok _ h2).2.2.1
    rw [List.length_drop] at this
    have := ih _ _ (by omega) h3
    omega
theorem chain_snoc (l : List UInt8) (xs : List Nat) : ∀ a b, chain l a xs b → b < l.length → err (l.drop b) = 0 → chain l a (xs ++ [b]) (b + size (l.drop b)) := by
  induction xs with
  | nil => intro a b hc h1 h2; obtain rfl : a = b := hc; exact ⟨rfl, h1, h2, rfl⟩
  | cons x xs ih =>
    intro a b hc h1 h2
    obtain ⟨rfl, h3, h4, h5⟩ := hc
    exact ⟨rfl, h3, h4, ih _ _ h5 h1 h2⟩
theorem chain_length (l : List UInt8) (xs : List Nat) : ∀ a b, a ≤ l.length → chain l a xs b → a + xs.length ≤ b := by
  induction xs with
  | nil => intro a b _ hc; have : a = b := hc; simp; omega
  | cons x xs ih =>
    intro a b h hc
    obtain ⟨rfl, h1, h2, h3⟩ := hc
    have := (err_ok _ h2).2.2.1
    rw [List.length_drop] at this
    have := ih _ _ (by omega) h3
    have : 1 ≤ size (l.drop x) := by unfold size; omega
    simp; omega
theorem chain_next (l : List UInt8) (xs : List Nat) (a b e : Nat) (ha : a < l.length) (hc : chain l a xs b) (he : ends l b e) : (err (l.drop a) ≠ 0 → xs = [] ∧ b = a ∧ e = err (l.drop a)) ∧ (err (l.drop a) = 0 → ∃ ys, xs = a :: ys ∧ chain l (a + size (l.drop a)) ys b) := by
  rcases xs with _ | ⟨x, xs⟩
  · obtain rfl : a = b := hc
    rcases he with ⟨h1, h2⟩ | ⟨h1, h2, h3⟩
    · omega
    · exact ⟨fun _ => ⟨rfl, rfl, h2.symm⟩, fun h => absurd (h2.symm.trans h) h3⟩
  · obtain ⟨rfl, h1, h2, h3⟩ := hc
    exact ⟨fun h => absurd h2 h, fun _ => ⟨xs, rfl, h3⟩⟩
theorem chain_end (l : List UInt8) (xs : List Nat) (a b e : Nat) (ha : a = l.length) (hc : chain l a xs b) (he : ends l b e) : xs = [] ∧ b = a ∧ e = 0 := by
  rcases xs with _ | ⟨x, xs⟩
  · obtain rfl : a = b := hc
    rcases he with ⟨h1, h2⟩ | ⟨h1, h2, h3⟩
    · exact ⟨rfl, rfl, h2⟩
    · omega
  · obtain ⟨rfl, h1, h2, h3⟩ := hc
    omega
theorem chain_one (l : List UInt8) (xs : List Nat) : ∀ a b e ys b' e', chain l a xs b → ends l b e → chain l a ys b' → ends l b' e' → a ≤ l.length → xs = ys ∧ b = b' ∧ e = e' := by
  induction xs with
  | nil =>
    intro a b e ys b' e' h1 h2 h3 h4 ha
    obtain rfl : a = b := h1
    by_cases hl : a = l.length
    · obtain ⟨rfl, rfl, rfl⟩ := chain_end l ys a b' e' hl h3 h4
      rcases h2 with ⟨_, rfl⟩ | ⟨h, _⟩
      · exact ⟨rfl, rfl, rfl⟩
      · omega
    · rcases h2 with ⟨h, _⟩ | ⟨h, h5, h6⟩
      · omega
      · obtain ⟨rfl, rfl, rfl⟩ := (chain_next l ys a b' e' h h3 h4).1 (by rw [h5]; exact h6)
        exact ⟨rfl, rfl, h5.symm⟩
  | cons x xs ih =>
    intro a b e ys b' e' h1 h2 h3 h4 ha
    obtain ⟨rfl, h5, h6, h7⟩ := h1
    obtain ⟨ys, rfl, h8⟩ := (chain_next l ys x b' e' h5 h3 h4).2 h6
    have := (err_ok _ h6).2.2.1
    rw [List.length_drop] at this
    obtain ⟨rfl, rfl, rfl⟩ := ih _ _ _ _ _ _ h7 h2 h8 h4 (by omega)
    exact ⟨rfl, rfl, rfl⟩

/-- A list of lists as frames, numbered from i on. -/
def packs : Nat → List (List UInt8) → List UInt8
  | _, [] => []
  | i, p :: ps => pack (UInt8.ofNat i) p ++ packs (i + 1) ps
theorem packs_snoc (ps : List (List UInt8)) (p : List UInt8) : ∀ i, packs i (ps ++ [p]) = packs i ps ++ pack (UInt8.ofNat (i + ps.length)) p := by
  induction ps with
  | nil => intro i; simp [packs]
  | cons q ps ih => intro i; simp only [List.cons_append, packs, ih, List.append_assoc, List.length_cons]; congr 4; omega
/-- Where each of them ends. -/
def stops : Nat → List (List UInt8) → List Nat
  | _, [] => []
  | a, p :: ps => (a + (sz p.length + 1 + p.length + 4)) :: stops (a + (sz p.length + 1 + p.length + 4)) ps
theorem stops_snoc (ps : List (List UInt8)) (p : List UInt8) : ∀ i a, stops a (ps ++ [p]) = stops a ps ++ [a + (packs i (ps ++ [p])).length] := by
  induction ps with
  | nil => intro i a; simp [stops, packs, length_pack]
  | cons q ps ih =>
    intro i a
    simp only [List.cons_append, stops, packs, List.length_append, length_pack]
    rw [ih (i + 1)]
    simp only [List.cons.injEq, true_and]
    congr 2; omega
/-- How many of them end up to k. -/
def upto (k : Nat) : List Nat → Nat
  | [] => 0
  | x :: xs => if x ≤ k then upto k xs + 1 else 0
/-- Where the last of these ends. -/
def last (k : Nat) : Nat → List Nat → Nat
  | a, [] => a
  | a, x :: xs => if x ≤ k then last k x xs else a
theorem cut_chain (ps : List (List UInt8)) (hps : ∀ p ∈ ps, p.length ≤ 1048576) : ∀ (i : Nat) (A : List UInt8) (k : Nat), A.length ≤ k → k ≤ A.length + (packs i ps).length →
    ∃ xs, chain ((A ++ packs i ps).take k) A.length xs (last k A.length (stops A.length ps)) ∧ xs.length = upto k (stops A.length ps) ∧ ends ((A ++ packs i ps).take k) (last k A.length (stops A.length ps)) (if last k A.length (stops A.length ps) = k then 0 else 5) := by
  induction ps with
  | nil =>
    intro i A k h1 h2
    simp only [packs, List.length_nil, Nat.add_zero] at h2
    obtain rfl : k = A.length := by omega
    refine ⟨[], rfl, rfl, .inl ⟨?_, by simp [last, stops]⟩⟩
    simp [packs, last, stops]
  | cons p ps ih =>
    intro i A k h1 h2
    have hp := hps p (by simp)
    have hlp := length_pack (UInt8.ofNat i) p
    have hP : packs i (p :: ps) = pack (UInt8.ofNat i) p ++ packs (i + 1) ps := rfl
    rw [hP] at h2 ⊢
    rw [List.length_append, hlp] at h2
    have hd : ((A ++ (pack (UInt8.ofNat i) p ++ packs (i + 1) ps)).take k).drop A.length = (pack (UInt8.ofNat i) p ++ packs (i + 1) ps).take (k - A.length) := by
      rw [List.drop_take, List.drop_left]
    have hlen : ((A ++ (pack (UInt8.ofNat i) p ++ packs (i + 1) ps)).take k).length = k := by
      simp only [List.length_take, List.length_append, hlp]; omega
    by_cases hk : A.length + (sz p.length + 1 + p.length + 4) ≤ k
    · have hA : (A ++ pack (UInt8.ofNat i) p).length = A.length + (sz p.length + 1 + p.length + 4) := by rw [List.length_append, hlp]
      obtain ⟨xs, c1, c2, c3⟩ := ih (fun q hq => hps q (by simp [hq])) (i + 1) (A ++ pack (UInt8.ofNat i) p) k (by omega) (by omega)
      rw [hA, List.append_assoc] at c1 c3
      rw [hA] at c2
      have hs : stops A.length (p :: ps) = (A.length + (sz p.length + 1 + p.length + 4)) :: stops (A.length + (sz p.length + 1 + p.length + 4)) ps := rfl
      have hlast : last k A.length (stops A.length (p :: ps)) = last k (A.length + (sz p.length + 1 + p.length + 4)) (stops (A.length + (sz p.length + 1 + p.length + 4)) ps) := by
        rw [hs, last, if_pos hk]
      have hup : upto k (stops A.length (p :: ps)) = upto k (stops (A.length + (sz p.length + 1 + p.length + 4)) ps) + 1 := by
        rw [hs, upto, if_pos hk]
      rw [hlast, hup]
      have hd2 : (pack (UInt8.ofNat i) p ++ packs (i + 1) ps).take (k - A.length) = pack (UInt8.ofNat i) p ++ (packs (i + 1) ps).take (k - A.length - (pack (UInt8.ofNat i) p).length) := by
        rw [List.take_append, List.take_of_length_le (by rw [hlp]; omega)]
      have he := err_pack (UInt8.ofNat i) p ((packs (i + 1) ps).take (k - A.length - (pack (UInt8.ofNat i) p).length)) hp
      rw [← hd2, ← hd, hlp] at he
      refine ⟨A.length :: xs, ⟨rfl, by rw [hlen]; omega, he.1, ?_⟩, by simp [c2], c3⟩
      rw [he.2.1]
      exact c1
    · have hs : stops A.length (p :: ps) = (A.length + (sz p.length + 1 + p.length + 4)) :: stops (A.length + (sz p.length + 1 + p.length + 4)) ps := rfl
      rw [hs, last, upto, if_neg hk, if_neg hk]
      refine ⟨[], rfl, rfl, ?_⟩
      by_cases h0 : A.length = k
      · rw [if_pos h0]
        exact .inl ⟨by rw [hlen]; exact h0, rfl⟩
      · rw [if_neg h0]
        refine .inr ⟨by rw [hlen]; omega, ?_, by decide⟩
        rw [hd, List.take_append_of_le_length (by rw [hlp]; omega)]
        exact err_cut _ _ hp _ (by rw [hlp]; omega)

/-- One byte is another one. -/
theorem bit_xor (b t s : Nat) : (b ^^^ t) / 2 ^ s % 2 = (b / 2 ^ s % 2 + t / 2 ^ s % 2) % 2 := by
  rw [Nat.xor_div_two_pow, xor_mod2]
theorem more_turn (g : List UInt8) (k : Nat) (hk : k < g.length) (t : Nat) (ht : t < 256) (h0 : t ≠ 0) : more 0 (g.set k (UInt8.ofNat ((g[k]).toNat ^^^ t))) ≠ more 0 g := by
  intro h
  have hlt : (g[k]).toNat ^^^ t < 256 := Nat.xor_lt_two_pow (n := 8) (UInt8.toNat_lt _) ht
  have := (more_burst g (g.set k (UInt8.ofNat ((g[k]).toNat ^^^ t))) (by simp) (8 * k) 8 t (by omega) (by omega) fun i hi => by
    unfold bitAt
    by_cases h : i / 8 = k
    · subst h
      have e1 : (g.set (i / 8) (UInt8.ofNat ((g[i / 8]).toNat ^^^ t))).getD (i / 8) 0 = UInt8.ofNat ((g[i / 8]).toNat ^^^ t) := by simp [List.getD, hk]
      have e2 : g.getD (i / 8) 0 = g[i / 8] := by simp [List.getD, hk]
      rw [e1, e2, UInt8.toNat_ofNat', Nat.mod_eq_of_lt hlt, bit_xor, if_pos (by omega)]
      rw [show i - 8 * (i / 8) = i % 8 by omega]
    · have e1 : (g.set k (UInt8.ofNat ((g[k]).toNat ^^^ t))).getD (i / 8) 0 = g.getD (i / 8) 0 := by
        simp only [List.getD]
        rw [List.getElem?_set_ne (by omega)]
      rw [e1, if_neg (by omega)]
      omega).1 h
  omega
theorem sz_add (a b : Nat) (h : a + sz a = b + sz b) : a = b := by
  rcases Nat.lt_trichotomy (sz a) (sz b) with h1 | h1 | h1
  · have := sz_mono a b h1; omega
  · omega
  · have := sz_mono b a h1; omega
theorem turn_ne (b : UInt8) (t : Nat) (ht : t < 256) (h0 : t ≠ 0) : UInt8.ofNat (b.toNat ^^^ t) ≠ b := by
  intro h
  have hlt : b.toNat ^^^ t < 256 := Nat.xor_lt_two_pow (n := 8) (UInt8.toNat_lt _) ht
  have e := congrArg UInt8.toNat h
  rw [UInt8.toNat_ofNat', Nat.mod_eq_of_lt hlt] at e
  have : b.toNat ^^^ (b.toNat ^^^ t) = b.toNat ^^^ b.toNat := by rw [e]
  rw [← Nat.xor_assoc, Nat.xor_self, Nat.zero_xor] at this
  exact h0 this
/-- A frame of which a byte of the number is another one. -/
theorem turn_head (kd : UInt8) (p : List UInt8) (k : Nat) (b : UInt8) (hk : k < sz p.length) (hk' : k < (pack kd p).length) (hb : b ≠ (pack kd p)[k]) (he : err ((pack kd p).set k b) = 0) : size ((pack kd p).set k b) < (pack kd p).length := by
  obtain ⟨h1, h2, h3, h4⟩ := err_ok _ he
  obtain ⟨g1, g2, g3, g4, g5⟩ := got_len _ h1
  rw [List.length_set] at h3 g4
  rcases Nat.lt_or_ge (size ((pack kd p).set k b)) (pack kd p).length with h | h
  · exact h
  · exfalso
    have hsz : size ((pack kd p).set k b) = (pack kd p).length := by omega
    unfold size at hsz
    rw [length_pack, ← g1] at hsz
    have hn := sz_add _ _ (show cnt ((pack kd p).set k b) + sz (cnt ((pack kd p).set k b)) = p.length + sz p.length by omega)
    rw [← g1, hn] at g2
    have h5 : (pack kd p).take (sz p.length) = coin p.length := by
      rw [pack, head, List.append_assoc, List.take_append_of_le_length (by rw [length_coin]; omega), List.take_of_length_le (by rw [length_coin]; omega)]
    have h6 : ((pack kd p).set k b)[k]? = (pack kd p)[k]? := by
      have e1 : (((pack kd p).set k b).take (sz p.length))[k]? = ((pack kd p).take (sz p.length))[k]? := by rw [← g2, h5]
      rw [List.getElem?_take_of_lt hk, List.getElem?_take_of_lt hk] at e1
      exact e1
    rw [List.getElem?_set_self hk', List.getElem?_eq_getElem hk'] at h6
    injection h6 with h6
    exact hb h6
/-- A frame of which another byte is another one. -/
theorem turn_rest (kd : UInt8) (p : List UInt8) (hp : p.length ≤ 1048576) (k : Nat) (t : Nat) (ht : t < 256) (h0 : t ≠ 0) (hk : sz p.length ≤ k) (hk' : k < (pack kd p).length) : err ((pack kd p).set k (UInt8.ofNat (((pack kd p)[k]).toNat ^^^ t))) = 4 := by
  have hlp := length_pack kd p
  generalize hQ : (pack kd p).set k (UInt8.ofNat (((pack kd p)[k]).toNat ^^^ t)) = Q
  have hQl : Q.length = (pack kd p).length := by rw [← hQ, List.length_set]
  have h5 : (pack kd p).take (sz p.length) = coin p.length := by
    rw [pack, head, List.append_assoc, List.take_append_of_le_length (by rw [length_coin]; omega), List.take_of_length_le (by rw [length_coin]; omega)]
  have hQt : Q.take (sz p.length) = coin p.length := by
    rw [← hQ, List.take_set_of_le hk, h5]
  have hg := got_coin p.length (by omega) (Q.drop (sz p.length))
  rw [← hQt, List.take_append_drop] at hg
  have hsum : tailb (more 0 (summed Q)) ≠ summ Q := by
    unfold summed summ wid cnt
    simp only [hg]
    rw [← length_head kd p]
    by_cases h1 : k < (head kd p).length
    · have eg : (pack kd p)[k] = (head kd p)[k]'h1 := List.getElem_append_left h1
      have e1 : Q.take (head kd p).length = (head kd p).set k (UInt8.ofNat (((head kd p)[k]).toNat ^^^ t)) := by
        rw [← hQ, eg]
        unfold pack
        rw [List.set_append_left _ _ h1, List.take_append_of_le_length (by simp), List.take_of_length_le (by simp)]
      have e2 : (Q.drop (head kd p).length).take 4 = tailb (more 0 (head kd p)) := by
        rw [← hQ]
        unfold pack
        rw [List.set_append_left _ _ h1, List.drop_append_of_le_length (by simp), List.drop_of_length_le (by simp), List.nil_append, List.take_of_length_le (by simp [tailb])]
      rw [e1, e2]
      intro h
      exact more_turn _ k h1 t ht h0 (tailb_inj _ _ (more_lt _ _) (more_lt _ _) h)
    · have e1 : Q.take (head kd p).length = head kd p := by
        rw [← hQ]
        unfold pack
        rw [List.set_append_right _ _ (by omega), List.take_append_of_le_length (by simp), List.take_of_length_le (by simp)]
      have hk2 : k - (head kd p).length < (tailb (more 0 (head kd p))).length := by rw [length_tailb, length_head]; omega
      have eg : (pack kd p)[k] = (tailb (more 0 (head kd p)))[k - (head kd p).length]'hk2 := List.getElem_append_right (by omega)
      have e2 : (Q.drop (head kd p).length).take 4 = (tailb (more 0 (head kd p))).set (k - (head kd p).length) (UInt8.ofNat (((tailb (more 0 (head kd p)))[k - (head kd p).length]).toNat ^^^ t)) := by
        rw [← hQ, eg]
        unfold pack
        rw [List.set_append_right _ _ (by omega), List.drop_left, List.take_of_length_le (by simp [tailb])]
      rw [e1, e2]
      generalize tailb (more 0 (head kd p)) = T at *
      intro h
      have h6 : T[k - (head kd p).length]? = (T.set (k - (head kd p).length) (UInt8.ofNat ((T[k - (head kd p).length]).toNat ^^^ t)))[k - (head kd p).length]? := by rw [← h]
      rw [List.getElem?_set_self hk2, List.getElem?_eq_getElem hk2] at h6
      injection h6 with h6
      exact turn_ne _ t ht h0 h6.symm
  unfold err
  rw [if_neg hsum, if_neg (by simp [hg]), if_neg (by simp [cnt, hg]; omega), if_neg (by simp [size, wid, cnt, hg]; omega)]
end Go.Proofs.YtdbhgkbmbbjpdaaGreatDoor.Frm
namespace Go.Proofs.YtdbhgkbmbbjpdaaGreatDoor.Coin
open Go.ChangeShapes Go.WideShapes Go.ChangeAt Go.RowKit

theorem ret_bool {a b : Bool} (h : a = b) : Ending.returned (.bool a) = .returned (.bool b) := by rw [h]
theorem ret_int {k : IntKind} {a b : Int} (h : a = b) : Ending.returned (.int k a) = .returned (.int k b) := by rw [h]

/-- How many bits a number has. -/
theorem len_lt (n : Nat) (hn : n < 18446744073709551616) (k : Nat) : Lib.bitLen n ≤ k ↔ n < 2 ^ k := by
  have hb := Lib.bitLenAux_bounds 64 n (by omega)
  have hz := Lib.bitLenAux_zero 64
  unfold Lib.bitLen
  by_cases h0 : n = 0
  · subst h0
    rw [hz]
    exact ⟨fun _ => Nat.pow_pos (by decide), fun _ => Nat.zero_le _⟩
  · obtain ⟨h1, h2, h3⟩ := hb h0
    generalize Lib.bitLenAux 64 n = L at *
    constructor
    · intro h
      exact Nat.lt_of_lt_of_le h3 (Nat.pow_le_pow_right (by decide) h)
    · intro h
      rcases Nat.lt_or_ge k L with hk | hk
      · have := Nat.pow_le_pow_right (n := 2) (by decide) (show k ≤ L - 1 by omega)
        omega
      · exact hk
theorem sz_len (n : Nat) (hn : n < 18446744073709551616) : sz n = min (max ((Lib.bitLen n + 6) / 7) 1) 9 := by
  have h := len_lt n hn
  have h1 := h 7
  have h2 := h 14
  have h3 := h 21
  have h4 := h 28
  have h5 := h 35
  have h6 := h 42
  have h7 := h 49
  have h8 := h 56
  simp only [Nat.reducePow] at h1 h2 h3 h4 h5 h6 h7 h8
  clear h
  generalize Lib.bitLen n = L at *
  unfold sz
  repeat' split
  all_goals omega
theorem len_le (n : Nat) (hn : n < 18446744073709551616) : Lib.bitLen n ≤ 64 := (len_lt n hn 64).2 (by omega)

theorem size_any (n : Nat) (hn : n < 18446744073709551616) (w : World) :
    Calls Tryz.prog 88 #[.int .u64 n] w fun e w' => e = .returned (.int .i64 (sz n : Nat)) ∧ w = w' := by
  have hs := sz_len n hn
  have hl := len_le n hn
  have c := Tryz.bits_Len64 n w (by omega) (by omega)
  simp only [Int.toNat_natCast] at c
  generalize Lib.bitLen n = L at *
  have S := Lib.hid hs
  clear hs
  go_enter Tryz.func88, Tryz.ntmps88
  go_wp2_with (go_at_call 112; refine c.mono ?_; rintro e w' ⟨rfl, rfl⟩)
  go_ret
  refine ⟨ret_int ?_, rfl⟩
  rw [S.out]
  omega
theorem ones_any (k : Nat) (hk : k ≤ 8) (w : World) :
    Calls Tryz.prog 116 #[.int .i64 k] w fun e w' => e = .returned (.int .u8 (ones k : Nat)) ∧ w = w' := by
  go_enter Tryz.func116, Tryz.ntmps116
  go_wp2
  go_ret
  refine ⟨ret_int ?_, rfl⟩
  rcases (by omega : k = 0 ∨ k = 1 ∨ k = 2 ∨ k = 3 ∨ k = 4 ∨ k = 5 ∨ k = 6 ∨ k = 7 ∨ k = 8) with h | h | h | h | h | h | h | h | h <;> subst h <;> decide +kernel
theorem i64_not (n : Int) (h1 : -9223372036854775808 ≤ n) (h2 : n ≤ 9223372036854775807) : bits .xor .i64 (-1) n = -n - 1 := by
  show IntKind.i64.wrap ((BitVec.ofInt 64 (-1) ^^^ BitVec.ofInt 64 n).toNat : Int) = _
  have e : (BitVec.ofInt 64 (-1)) = BitVec.allOnes 64 := by decide
  rw [e, BitVec.allOnes_xor, BitVec.toNat_not, BitVec.toNat_ofInt, IntKind.wrap_i64]
  omega
theorem wrap_u64 (n : Int) : IntKind.u64.wrap n = n % 18446744073709551616 := by simp [IntKind.wrap, IntKind.bits, IntKind.signed]
theorem len_half (m : Nat) (h0 : 0 < m) (hm : m < 18446744073709551616) : Lib.bitLen m = 1 + Lib.bitLen (m / 2) := by
  have a := len_lt m hm
  have b := len_lt (m / 2) (by omega)
  have c : ∀ k, Lib.bitLen m ≤ k + 1 ↔ Lib.bitLen (m / 2) ≤ k := fun k => by rw [a, b, Nat.pow_succ]; omega
  have h1 : 1 ≤ Lib.bitLen m := by
    rcases Nat.eq_zero_or_pos (Lib.bitLen m) with h | h
    · have := (a 0).1 (by omega)
      simp at this; omega
    · exact h
  have := (c (Lib.bitLen m - 1)).1 (by omega)
  have := (c (Lib.bitLen (m / 2))).2 (by omega)
  omega
theorem bits_any (n : Nat) (hn : n < 18446744073709551616) (w : World) :
    Calls Tryz.prog 86 #[.int .u64 n] w fun e w' => e = .returned (.int .i64 (Lib.bitLen n : Nat)) ∧ w = w' := by
  have hle := len_le n hn
  go_enter Tryz.func86, Tryz.ntmps86
  go_wp2
  go_loop [0, 3] (fun x j => ∃ k m : Nat, k ≤ 64 ∧ m < 18446744073709551616 ∧ j = .int .i64 k ∧ x = .int .u64 m ∧ Hid (Lib.bitLen n = k + Lib.bitLen m)) (fun x _ => (intOf x).toNat)
  case atStart => exact ⟨0, n, by omega, by omega, rfl, rfl, by simp [Hid]⟩
  case round =>
    obtain ⟨k, m, hk, hm, rfl, rfl, H⟩ := hrel
    by_cases hlt : 0 < m
    · have h := len_half m hlt hm
      have hk1 : k + 1 ≤ 64 := by have := H.out; omega
      have HL := Lib.hid h
      clear h
      go_wp2
      go_round
      case rel => exact ⟨k + 1, m / 2, hk1, by omega, by go_num, by go_num, show _ = _ by have := H.out; have := HL.out; omega⟩
      case measure => simp [intOf]; omega
    · obtain rfl : m = 0 := by omega
      go_wp2
      go_ret
      refine ⟨ret_int ?_, rfl⟩
      have := H.out
      have h0 : Lib.bitLen 0 = 0 := by decide
      omega
theorem lz8_any (b : Nat) (hb : b < 256) (w : World) :
    Calls Tryz.prog 137 #[.int .u8 (255 - b : Nat)] w fun e w' => e = .returned (.int .i64 (lead b - 1 : Nat)) ∧ w = w' := by
  refine (Tryz.bits_LeadingZeros8 (255 - b : Nat) w (by omega) (by omega)).mono ?_
  rintro e w' ⟨rfl, rfl⟩
  refine ⟨ret_int ?_, rfl⟩
  have h := (by decide +kernel : ∀ b : Fin 256, (8 - (Lib.bitLen ((255 - b.val : Nat) : Int).toNat : Int)) = ((lead b.val - 1 : Nat) : Int)) ⟨b, hb⟩
  exact h
end Go.Proofs.YtdbhgkbmbbjpdaaGreatDoor.Coin
namespace Go.Proofs.YtdbhgkbmbbjpdaaGreatDoor.Coin
open Go.ChangeShapes Go.WideShapes Go.ChangeAt Go.RowKit

def b8 (b : UInt8) : Value := .int .u8 (b.toNat : Int)
/-- A slice's cells, below block B, read as these bytes. -/
def Rd (w : World) (B : Nat) (A : Option Addr) (l : List UInt8) : Prop := 0 < l.length → ∃ ad : Addr, A = some ad ∧ ad.block < B ∧ ∀ j (hj : j < l.length), w.cell? (ad.add j) = some (b8 l[j])
/-- A block that holds just these bytes. -/
def Row (w : World) (g : Nat) (l : List UInt8) : Prop := w.heap[g]? = some (.cells (l.map b8).toArray 5 (0, 0))

theorem block_add (a : Addr) (n : Nat) : (a.add n).block = a.block := by unfold Addr.add; split <;> rfl
theorem add_add (a : Addr) (i j : Nat) : (a.add i).add j = a.add (i + j) := by
  unfold Addr.add
  by_cases hi : i = 0 <;> by_cases hj : j = 0 <;> simp [hi, hj, Nat.add_assoc]
theorem zero_add' (g j : Nat) : (⟨g, 0, none⟩ : Addr).add j = ⟨g, j, none⟩ := by
  unfold Addr.add; split <;> simp_all

theorem Rd.keep {w w' : World} {B : Nat} {A : Option Addr} {l : List UInt8} (h : Rd w B A l) (hk : ∀ p : Addr, p.block < B → w'.cell? p = w.cell? p) : Rd w' B A l := fun h0 => by
  obtain ⟨ad, e, hb, hc⟩ := h h0
  exact ⟨ad, e, hb, fun j hj => (hk _ (by rw [block_add]; exact hb)).trans (hc j hj)⟩
theorem Rd.below {w w' : World} {B B' : Nat} {A : Option Addr} {l : List UInt8} (h : Rd w B A l) (hb : Below B' w w') (hB : B ≤ B') : Rd w' B A l := h.keep fun _ hp => hb.cell (Nat.lt_of_lt_of_le hp hB)
theorem Rd.more {w : World} {B B' : Nat} {A : Option Addr} {l : List UInt8} (h : Rd w B A l) (hB : B ≤ B') : Rd w B' A l := fun h0 => by
  obtain ⟨ad, e, hb, hc⟩ := h h0
  exact ⟨ad, e, Nat.lt_of_lt_of_le hb hB, hc⟩
theorem Rd.nil (w : World) (B : Nat) (A : Option Addr) : Rd w B A [] := fun h => by simp at h
theorem Rd.cut {w : World} {B : Nat} {A : Option Addr} {l : List UInt8} (h : Rd w B A l) (k : Nat) : Rd w B (A.map (·.add k)) (l.drop k) := fun h0 => by
  have hk : k < l.length := by simp at h0; omega
  obtain ⟨ad, rfl, hb, hc⟩ := h (by omega)
  refine ⟨ad.add k, rfl, by rw [block_add]; exact hb, fun j hj => ?_⟩
  rw [add_add, hc (k + j) (by simp at hj; omega)]
  simp
theorem Rd.take {w : World} {B : Nat} {A : Option Addr} {l : List UInt8} (h : Rd w B A l) (k : Nat) : Rd w B A (l.take k) := fun h0 => by
  simp at h0
  obtain ⟨ad, rfl, hb, hc⟩ := h (by omega)
  refine ⟨ad, rfl, hb, fun j hj => ?_⟩
  rw [hc j (by simp at hj; omega)]
  simp
theorem Row.lt {w : World} {g : Nat} {l : List UInt8} (h : Row w g l) : g < w.heap.size := by
  rcases Nat.lt_or_ge g w.heap.size with hlt | hge
  · exact hlt
  · unfold Row at h; rw [Array.getElem?_eq_none hge] at h; cases h
theorem Row.cell {w : World} {g : Nat} {l : List UInt8} (h : Row w g l) (j : Nat) (hj : j < l.length) : w.cell? ⟨g, j, none⟩ = some (b8 l[j]) := by
  rw [cell_of_row w g j _ 5 (0, 0) h]
  simp [hj]
theorem Row.frozen {w : World} {g : Nat} {l : List UInt8} (h : Row w g l) (j : Nat) : w.frozen? ⟨g, j, none⟩ = false := frozen_of_row w g j _ 5 h
theorem Row.rd {w : World} {g : Nat} {l : List UInt8} (h : Row w g l) : Rd w w.heap.size (some ⟨g, 0, none⟩) l := fun _ =>
  ⟨_, rfl, h.lt, fun j hj => by rw [zero_add']; exact h.cell j hj⟩
theorem Row.below {w w' : World} {g B : Nat} {l : List UInt8} (h : Row w g l) (hb : Below B w w') (hg : g < B) : Row w' g l := (hb.block g hg).trans h
theorem Row.set {w : World} {g : Nat} {l : List UInt8} (h : Row w g l) (j : Nat) (b : UInt8) : Row (w.setCell ⟨g, j, none⟩ (b8 b)) g (l.set j b) := by
  unfold Row at h ⊢
  rw [heap_setCell_same w g j _ 5 _ h]
  simp [List.map_set]
theorem Row.new (w : World) (n : Nat) : Row (w.alloc (.cells (madeCells #[.int .u8 0] n) 5)) w.heap.size (List.replicate n 0) := by
  unfold Row
  rw [heap_alloc_new]
  have e : ((List.replicate n (0 : UInt8)).map b8).toArray = madeCells #[.int .u8 0] n := by
    apply Array.toList_inj.1
    rw [toList_madeCells_one]
    simp [b8]
  rw [e]
theorem info5 : (Tryz.prog.info? 5).map (fun i => (i.zero, i.size, i.bytes)) = some (some (.int .u8 0), 1, 1) := by kernel_rfl
theorem size5 : (Tryz.prog.info? 5).map (·.size) = some 1 := by kernel_rfl
theorem make_any (n : Nat) (h : n ≤ 1300000) : ∀ w : World, (Instr.makeSlice 30 (.int .i64 (n : Int)) (.int .i64 (n : Int))).run Tryz.prog w = .ok (.slice (some ⟨w.heap.size, 0, none⟩) n n) (w.alloc (.cells (madeCells #[.int .u8 0] n) 5)) :=
  fun w => run_make_row' (P := Tryz.prog) 30 5 (.int .u8 0) 1 Tryz.underlying30 info5 rfl .i64 .i64 n (by omega) (by omega) w
theorem one_b8 (l : List UInt8) : ∀ v ∈ l.map b8, v.oneCell' = true := by
  intro v hv
  obtain ⟨b, _, rfl⟩ := List.mem_map.1 hv
  rfl
theorem Rd.src {w : World} {B : Nat} {A : Option Addr} {l : List UInt8} (h : Rd w B A l) (h0 : 0 < l.length) : ∃ ad, A = some ad ∧ ∀ j v, (l.map b8)[j]? = some v → w.cell? (ad.add j) = some v := by
  obtain ⟨ad, e, _, hc⟩ := h h0
  refine ⟨ad, e, fun j v hv => ?_⟩
  obtain ⟨hj, rfl⟩ := List.getElem?_eq_some_iff.1 hv
  simp at hj
  rw [hc j hj]; simp
theorem b8_ofNat (x : Nat) : b8 (UInt8.ofNat x) = .int .u8 ((x : Int) % 256) := by simp [b8]
theorem b8_small (x : Nat) (h : x < 256) : b8 (UInt8.ofNat x) = .int .u8 (x : Int) := by rw [b8_ofNat]; congr 1; omega
/-- 'copy' into a row of noughts that the call has just made. -/
theorem copy_row {w : World} {ops : Array Oper} {rest : List Oper} {o : Oper} {a : Act} {Q : Exit → Act → World → Prop} (hgd : o.guard = none) (d s : Operand)
    (ho : o.op = .call { callee := .builtin .copy, args := #[d, s], argTypes := #[30, 30] }) (g L m cap : Nat) (A : Option Addr) (hd : a.eval d = .slice (some ⟨g, 0, none⟩) L L) (hs : a.eval s = .slice A m cap)
    (l : List UInt8) (hn : l.length = Nat.min m L) (B : Nat) (hr : Rd w B A l) (hg : Row w g (List.replicate L 0)) (B0 : Nat) (w0 : World) (hb : Below B0 w0 w) (hB : B0 ≤ g)
    (h : ∀ w', Row w' g (l ++ List.replicate (L - l.length) 0) → Below B0 w0 w' → wpList Tryz.prog ops Q rest (a.put o.dst (.int .i64 (l.length : Nat))) w') : wpList Tryz.prog ops Q (o :: rest) a w := by
  have hle : l.length ≤ L := by rw [hn]; exact Nat.min_le_right _ _
  refine wpList_copy_splice hgd d s 30 30 ho 5 Tryz.underlying30 size5 _ A L L m cap hd hs g 0 ((List.replicate L (0 : UInt8)).map b8) 5 hg (l.map b8) (by simpa using hn) (fun h0 => ⟨rfl, hr.src (by simpa using h0)⟩) (by simpa using hle) (one_b8 l) B0 w0 hb hB ?_
  intro w' hw' hb'
  have e : goInt (List.map b8 l).length = .int .i64 (l.length : Nat) := by simp [goInt]
  rw [e]
  refine h w' ?_ hb'
  have := hw'.out
  unfold Row
  rw [this]
  simp [splice]
/-- Bytes as a string. -/
def str (l : List UInt8) : ByteArray := ⟨l.toArray⟩
theorem str_toList (l : List UInt8) : (str l).toList = l := by rw [ByteArray.toList_eq]; rfl
theorem conv_any {w : World} {B : Nat} {A : Option Addr} {l : List UInt8} (h : Rd w B A l) (m cap : Nat) (hm : m = l.length) : (convert 30 9 (.slice A m cap)).run Tryz.prog w = .ok (.string (str l)) w := by
  subst hm
  by_cases h0 : 0 < l.length
  · obtain ⟨ad, rfl, _, hc⟩ := h h0
    exact run_convert_bytes_back w 30 9 5 ad cap l Tryz.underlying30 Tryz.underlying5 Tryz.underlying9 hc
  · obtain rfl : l = [] := List.eq_nil_of_length_eq_zero (by omega)
    rw [run_convert_bytes_string w 30 9 5 A _ cap Tryz.underlying30 Tryz.underlying5 Tryz.underlying9]
    rcases A with _ | ad
    · rfl
    · exact run_bytesToString w ad 0 cap [] (run_loadCells_list (P := Tryz.prog) w ad [] (by intro j v hv; simp at hv))
end Go.Proofs.YtdbhgkbmbbjpdaaGreatDoor.Coin
namespace Go.Proofs.YtdbhgkbmbbjpdaaGreatDoor.Coin
open Go.ChangeShapes Go.WideShapes Go.ChangeAt Go.RowKit

set_option maxRecDepth 4000 in
theorem put_any (A : Option Addr) (cap : Nat) (l : List UInt8) (n : Nat) (w : World) (hn : n < 18446744073709551616) (hl : l.length ≤ 900000) (hr : Rd w w.heap.size A l) :
    Calls Tryz.prog 92 #[.slice A l.length cap, .int .u64 n] w fun e w' => e = .returned (.slice (some ⟨w.heap.size, 0, none⟩) (l.length + sz n) (l.length + sz n)) ∧ Row w' w.heap.size (l ++ coin n) ∧ Below w.heap.size w w' := by
  have hs := sz_le n
  obtain ⟨m, hm⟩ : ∃ m, m = l.length := ⟨_, rfl⟩
  obtain ⟨k, hk⟩ : ∃ k, k = sz n := ⟨_, rfl⟩
  have hmk := make_any (m + k) (by omega)
  have ec : ((m + k : Nat) : Int) = (m : Int) + (k : Int) := by omega
  rw [ec] at hmk
  clear ec
  have cs := size_any n hn
  rw [← hk] at hs cs
  rw [← hm, ← hk]
  have HK := Lib.hid hk
  have HM := Lib.hid hm
  have hm' : m ≤ 900000 := by omega
  clear hk hm
  have R0 := Row.new w (m + k)
  have R1 : Rd (w.alloc (.cells (madeCells #[.int .u8 0] (m + k)) 5)) w.heap.size A l := hr.below ((Below.refl _ _).alloc (Nat.le_refl _) _) (Nat.le_refl _)
  have B1 : Below w.heap.size w (w.alloc (.cells (madeCells #[.int .u8 0] (m + k)) 5)) := (Below.refl _ _).alloc (Nat.le_refl _) _
  obtain ⟨w1, hw1⟩ : ∃ w1, w1 = w.alloc (.cells (madeCells #[.int .u8 0] (m + k)) 5) := ⟨_, rfl⟩
  rw [← hw1] at R0 R1 B1
  have hmk' : (Instr.makeSlice 30 (.int .i64 ((m : Int) + k)) (.int .i64 ((m : Int) + k))).run Tryz.prog w = .ok (.slice (some ⟨w.heap.size, 0, none⟩) (m + k) (m + k)) w1 := by rw [hw1]; exact hmk w
  clear hmk hw1
  go_enter Tryz.func92, Tryz.ntmps92
  go_wp2_with (first | (go_at_call 88; refine (cs _).mono ?_; rintro e w' ⟨rfl, rfl⟩) | (with_reducible refine copy_row rfl (.tmp 15) (.tmp 16) rfl w.heap.size (m + k) m cap A rfl rfl l ?c1 _ R1 R0 w.heap.size w B1 (Nat.le_refl _) ?_))
  case c1 => rw [← HM.out]; exact (Nat.min_eq_left (by omega)).symm
  intro w2 R2 B2
  clear R0 B1 R1 hmk'
  rw [← HM.out]
  go_wp2
  have R3 : Row w2 w.heap.size (l ++ (List.replicate (k - 0) 0 ++ be 0 n)) := by
    have e : m + k - l.length = k := by rw [← HM.out]; omega
    rw [e] at R2
    simpa [be] using R2
  clear R2
  go_loopw [1, 19] (fun x i wr => ∃ j : Nat, j ≤ k ∧ i = .int .i64 j ∧ x = .int .u64 (n / 256 ^ j : Nat) ∧ Row wr w.heap.size (l ++ (List.replicate (k - j) 0 ++ be j n)) ∧ Below w.heap.size w wr) (fun _ i _ => k - (intOf i).toNat)
  case atStart => exact ⟨0, by omega, rfl, by simp, R3, B2⟩
  case round =>
    obtain ⟨j, hj, rfl, rfl, R, B⟩ := hrel
    clear R3 B2
    by_cases hlt : j < k
    · have hx : n / 256 ^ j < 18446744073709551616 := Nat.lt_of_le_of_lt (Nat.div_le_self _ _) hn
      have hd := Lib.hid (show n / 256 ^ j / 256 = n / 256 ^ (j + 1) by rw [Nat.pow_succ, Nat.div_div_eq_div_mul])
      have hlen : (l ++ (List.replicate (k - j) 0 ++ be j n)).length = m + k := by simp [length_be]; have := HM.out; omega
      have ea : m + k - 1 - j = m + (k - 1 - j) := by omega
      obtain ⟨q, hcell⟩ : ∃ q : Int, wr.cell? ⟨w.heap.size, m + k - 1 - j, none⟩ = some (.int .u8 q) := ⟨_, R.cell (m + k - 1 - j) (by rw [hlen]; omega)⟩
      have hfz := R.frozen (m + k - 1 - j)
      have R' := R.set (m + k - 1 - j) (UInt8.ofNat (n / 256 ^ j))
      have hset := set_be l k j n hlt
      rw [← HM.out, ← ea] at hset
      rw [hset, b8_ofNat] at R'
      clear hset hlen ea
      have B' := B.setCell (p := ⟨w.heap.size, m + k - 1 - j, none⟩) (Nat.le_refl _) (.int .u8 ((n / 256 ^ j : Nat) % 256))
      generalize n / 256 ^ j = x at *
      go_wp2
      go_roundw
      case rel => exact ⟨j + 1, by omega, by go_num, by rw [← hd.out]; rfl, R', B'⟩
      case measure => simp [intOf]; omega
    · obtain rfl : j = k := by omega
      have ht := top_sz n hn
      have hor := or_ones (sz n) _ (sz_le n).1 (sz_le n).2 ht
      have hlo := (lead_top (sz n) _ (sz_le n).1 (sz_le n).2 ht).2
      have hset := set_coin l n
      rw [← HK.out] at ht hor hset hlo
      rw [Nat.sub_self, List.replicate_zero, List.nil_append] at R
      have hlen : (l ++ be j n).length = m + j := by simp [length_be]; have := HM.out; omega
      have hcell : wr.cell? ⟨w.heap.size, m, none⟩ = some (.int .u8 ((n / 256 ^ (j - 1) : Nat) : Int)) := by
        rw [R.cell m (by rw [hlen]; omega), ← b8_small _ (by omega)]
        congr 2
        rw [List.getElem_append_right (by have := HM.out; omega)]
        obtain ⟨i, rfl⟩ : ∃ i, j = i + 1 := ⟨j - 1, by omega⟩
        simp [be, HM.out]
      have hfz := R.frozen m
      have R' := R.set m (UInt8.ofNat (n / 256 ^ (j - 1) + ones (j - 1)))
      rw [← HM.out] at hset
      rw [hset, b8_small _ hlo] at R'
      have hb : bits .or .u8 ((n / 256 ^ (j - 1) : Nat) : Int) (ones (j - 1) : Nat) = ((n / 256 ^ (j - 1) + ones (j - 1) : Nat) : Int) := by
        rw [u8_or_nat _ _ (by omega) (by have : ones (j - 1) < 256 := by unfold ones; have := Nat.two_pow_pos (8 - (j - 1)); omega
                                         omega), hor]
      have hcell : wr.drew.cell? ⟨w.heap.size, m, none⟩ = some (.int .u8 ((n / 256 ^ (j - 1) : Nat) : Int)) := hcell
      have hfz : wr.drew.frozen? ⟨w.heap.size, m, none⟩ = false := hfz
      have R' : Row (wr.drew.setCell ⟨w.heap.size, m, none⟩ (.int .u8 ((n / 256 ^ (j - 1) + ones (j - 1) : Nat) : Int))) w.heap.size (l ++ coin n) := R'
      have B' := B.drew.setCell (p := ⟨w.heap.size, m, none⟩) (Nat.le_refl _) (.int .u8 ((n / 256 ^ (j - 1) + ones (j - 1) : Nat) : Int))
      have co := fun W => (ones_any (j - 1) (by omega) W).mono fun _ _ h => And.intro h.1 h.2.symm
      have ej : ((j - 1 : Nat) : Int) = (j : Int) - 1 := by omega
      rw [ej] at co
      clear hset hlen hor ht hlo ej
      generalize n / 256 ^ (j - 1) + ones (j - 1) = y at *
      generalize n / 256 ^ (j - 1) = x at *
      generalize ones (j - 1) = z at *
      go_wp2
      refine wp_region_still_tail 10 (by kernel_rfl) (by kernel_rfl) ?_
      simp only [List.take_succ_cons, List.take_zero, List.drop_succ_cons, List.drop_zero]
      change wpStill _ _ wr.drew (fun a' => wpList _ _ _ _ a' wr.drew) _ _
      generalize wr.drew = wd at *
      have hin : (m : Int) < (m : Int) + (j : Int) := by omega
      have hjw : IntKind.i64.wrap ((j : Int) - 1) = (j : Int) - 1 := by rw [IntKind.wrap_i64]; omega
      repeat still_step
      still_call (co _)
      repeat still_step
      refine wpStill_nil ?_
      go_wp2
      go_ret
      exact ⟨rfl, R', B'⟩

end Go.Proofs.YtdbhgkbmbbjpdaaGreatDoor.Coin
