/- Numbers as bytes, over natural numbers: how many bytes, which ones, and back. Nothing of the program. CRC-32C, over natural numbers: bit by bit, byte by byte. Nothing of the program. Frames, over lists of bytes: one, many, cut, turned. Nothing of the program. Contracts of package coin's small functions, and of the document's own 'bits'. Bytes in memory: a slice that reads as bytes, a block that holds bytes. What coin.Put answers, and the law's own 'awake'. -/
import Derived.PlainAid
import Derived.Laws.DeepStrings4
import Derived.Test.YtdbhgkbmbbjpdaaGreatDoorShelf
import Derived.Test.YtdbhgkbmbbjpdaaGreatDoorRows
import Derived.WalkKit
import Derived.ProofKit
import Derived.OpenShut
import Derived.ShutString
import Derived.WalkLawsBesides
import Derived.Lib.Hide
import Derived.Laws.BitsAllLaws
import Derived.Below
import Derived.Lib.ItoaNum
import Derived.Laws.OwnMore
import Derived.Laws.CopyOwn
import Derived.Deep.OwnRows
import Derived.OwnWalk
import Derived.Laws.IdiomStrings
import Derived.StillTailTactics
import Derived.Deep.QuietTactic
import Derived.BigQuiet
namespace Go.Proofs.YtdbhgkbmbbjpdaaGreatDoor.Coin
def sz (n : Nat) : Nat := if n < 128 then 1 else if n < 16384 then 2 else if n < 2097152 then 3 else if n < 268435456 then 4 else if n < 34359738368 then 5 else if n < 4398046511104 then 6 else if n < 562949953421312 then 7 else if n < 72057594037927936 then 8 else 9
theorem sz_le (n : Nat) : 1 ≤ sz n ∧ sz n ≤ 9 := by
  unfold sz
  repeat' split
  all_goals omega
def ones (k : Nat) : Nat := 256 - 2 ^ (8 - k)
def lead (b : Nat) : Nat := if b < 128 then 1 else if b < 192 then 2 else if b < 224 then 3 else if b < 240 then 4 else if b < 248 then 5 else if b < 252 then 6 else if b < 254 then 7 else if b < 255 then 8 else 9
theorem lead_le (b : Nat) : 1 ≤ lead b ∧ lead b ≤ 9 := by
  unfold lead
  repeat' split
  all_goals omega
def be : Nat → Nat → List UInt8
  | 0, _ => []
  | m + 1, n => UInt8.ofNat (n / 256 ^ m) :: be m n
theorem length_be (m n : Nat) : (be m n).length = m := by induction m with
  | zero => rfl
  | succ m ih => simp [be, ih]
def coin (n : Nat) : List UInt8 := UInt8.ofNat (n / 256 ^ (sz n - 1) + ones (sz n - 1)) :: be (sz n - 1) n
theorem length_coin (n : Nat) : (coin n).length = sz n := by
  have := sz_le n
  simp [coin, length_be]; omega
def num (a : Nat) (l : List UInt8) : Nat := l.foldl (fun a b => a * 256 + b.toNat) a
theorem num_snoc (a : Nat) (l : List UInt8) (b : UInt8) : num a (l ++ [b]) = num a l * 256 + b.toNat := by simp [num]
theorem num_cons (a : Nat) (b : UInt8) (l : List UInt8) : num a (b :: l) = num (a * 256 + b.toNat) l := rfl
theorem num_be (m n : Nat) : num (n / 256 ^ m) (be m n) = n := by
  induction m with
  | zero => simp [be, num]
  | succ m ih =>
    rw [be, num_cons]
    have e : n / 256 ^ (m + 1) * 256 + (UInt8.ofNat (n / 256 ^ m)).toNat = n / 256 ^ m := by
      rw [Nat.pow_succ, ← Nat.div_div_eq_div_mul]; simp; omega
    rw [e, ih]
theorem num_lt (a : Nat) (l : List UInt8) : num a l < (a + 1) * 256 ^ l.length := by
  induction l generalizing a with
  | nil => simp [num]
  | cons b l ih =>
    rw [num_cons]
    refine Nat.lt_of_lt_of_le (ih _) ?_
    have hb := b.toNat_lt
    rw [List.length_cons, Nat.pow_succ, Nat.mul_comm (256 ^ l.length), ← Nat.mul_assoc]
    exact Nat.mul_le_mul_right _ (by omega)
theorem num_div (a : Nat) (l : List UInt8) : num a l / 256 ^ l.length = a := by
  induction l generalizing a with
  | nil => simp [num]
  | cons b l ih =>
    have hb := b.toNat_lt
    rw [num_cons, List.length_cons, Nat.pow_succ, ← Nat.div_div_eq_div_mul, ih]; omega
theorem be_num (a : Nat) (l : List UInt8) : be l.length (num a l) = l := by
  induction l generalizing a with
  | nil => rfl
  | cons b l ih =>
    rw [List.length_cons, be, num_cons, ih, num_div]
    congr 1
    have hb := b.toNat_lt
    apply UInt8.toNat_inj.1
    simp
def val (b : UInt8) (r : List UInt8) : Nat := num (b.toNat - ones (lead b.toNat - 1)) (r.take (lead b.toNat - 1))
def got : List UInt8 → Nat × Nat × Nat
  | [] => (0, 0, 5)
  | b :: r => if r.length + 1 < lead b.toNat then (0, 0, 5) else if sz (val b r) = lead b.toNat then (val b r, lead b.toNat, 0) else (0, 0, 4)
theorem ones_le (b : Nat) (h : b < 256) : ones (lead b - 1) ≤ b := by
  have h := (by decide +kernel : ∀ b : Fin 256, ones (lead b.val - 1) ≤ b.val) ⟨b, h⟩
  exact h
theorem top_lt (b : Nat) (h : b < 256) : b - ones (lead b - 1) < 2 ^ (8 - lead b) := by
  have h := (by decide +kernel : ∀ b : Fin 256, b.val - ones (lead b.val - 1) < 2 ^ (8 - lead b.val)) ⟨b, h⟩
  exact h
theorem lead_top (k t : Nat) (h1 : 1 ≤ k) (h9 : k ≤ 9) (ht : t < 2 ^ (8 - k)) : lead (t + ones (k - 1)) = k ∧ t + ones (k - 1) < 256 := by
  have h128 : t < 129 := by
    have : 2 ^ (8 - k) ≤ 2 ^ 7 := Nat.pow_le_pow_right (by decide) (by omega)
    omega
  have h := (by decide +kernel : ∀ k : Fin 10, ∀ t : Fin 129, 1 ≤ k.val → t.val < 2 ^ (8 - k.val) → lead (t.val + ones (k.val - 1)) = k.val ∧ t.val + ones (k.val - 1) < 256) ⟨k, by omega⟩ ⟨t, h128⟩ h1 ht
  exact h
theorem top_sz (n : Nat) (h : n < 18446744073709551616) : n / 256 ^ (sz n - 1) < 2 ^ (8 - sz n) := by
  unfold sz
  repeat' split
  all_goals (simp only [Nat.reduceSub, Nat.reducePow]; omega)
theorem val_lt (b : UInt8) (r : List UInt8) (h : lead b.toNat ≤ r.length + 1) : val b r < 18446744073709551616 := by
  have hb := b.toNat_lt
  have ht := top_lt b.toNat hb
  have hl := lead_le b.toNat
  unfold val
  refine Nat.lt_of_lt_of_le (num_lt _ _) ?_
  have hlen : (r.take (lead b.toNat - 1)).length = lead b.toNat - 1 := by simp; omega
  rw [hlen]
  refine Nat.le_trans (Nat.mul_le_mul_right _ ht) ?_
  generalize lead b.toNat = k at hl
  obtain ⟨h1, h9⟩ := hl
  rcases (by omega : k = 1 ∨ k = 2 ∨ k = 3 ∨ k = 4 ∨ k = 5 ∨ k = 6 ∨ k = 7 ∨ k = 8 ∨ k = 9) with h | h | h | h | h | h | h | h | h <;> subst h <;> decide
theorem got_coin (n : Nat) (hn : n < 18446744073709551616) (r : List UInt8) : got (coin n ++ r) = (n, sz n, 0) := by
  have hs := sz_le n
  obtain ⟨hl, hlt⟩ := lead_top (sz n) _ hs.1 hs.2 (top_sz n hn)
  have hb : (UInt8.ofNat (n / 256 ^ (sz n - 1) + ones (sz n - 1))).toNat = n / 256 ^ (sz n - 1) + ones (sz n - 1) := by
    rw [UInt8.toNat_ofNat', Nat.mod_eq_of_lt hlt]
  have hv : val (UInt8.ofNat (n / 256 ^ (sz n - 1) + ones (sz n - 1))) (be (sz n - 1) n ++ r) = n := by
    unfold val
    rw [hb, hl, List.take_append_of_le_length (by rw [length_be]; exact Nat.le_refl _), List.take_of_length_le (by rw [length_be]; exact Nat.le_refl _), Nat.add_sub_cancel, num_be]
  unfold coin
  simp only [List.cons_append, got]
  rw [hv, hb, hl, if_neg (by rw [List.length_append, length_be]; omega), if_pos rfl]
theorem coin_val (b : UInt8) (r : List UInt8) (h : lead b.toNat ≤ r.length + 1) (hs : sz (val b r) = lead b.toNat) : coin (val b r) = (b :: r).take (lead b.toNat) := by
  have hl := lead_le b.toNat
  have hlen : (r.take (lead b.toNat - 1)).length = lead b.toNat - 1 := by simp; omega
  have e : lead b.toNat = lead b.toNat - 1 + 1 := by omega
  unfold coin
  rw [hs, e, List.take_succ_cons, Nat.add_sub_cancel]
  have h1 : val b r / 256 ^ (lead b.toNat - 1) = b.toNat - ones (lead b.toNat - 1) := by
    have := num_div (b.toNat - ones (lead b.toNat - 1)) (r.take (lead b.toNat - 1))
    rw [hlen] at this; exact this
  have h2 : be (lead b.toNat - 1) (val b r) = r.take (lead b.toNat - 1) := by
    have := be_num (b.toNat - ones (lead b.toNat - 1)) (r.take (lead b.toNat - 1))
    rw [hlen] at this; exact this
  have hb := b.toNat_lt
  have := ones_le b.toNat hb
  rw [h1, h2, Nat.sub_add_cancel this]
  simp
theorem got_lt (l : List UInt8) : (got l).1 < 18446744073709551616 ∧ (got l).2.1 ≤ 9 ∧ (got l).2.1 ≤ l.length ∧ (got l).2.2 ≤ 5 := by
  rcases l with _ | ⟨b, r⟩
  · simp [got]
  · simp only [got]
    split
    · simp
    · rename_i h
      split
      · exact ⟨val_lt b r (by omega), (lead_le _).2, by simp; omega, by simp⟩
      · simp
theorem set_be (xs : List UInt8) (k i n : Nat) (hi : i < k) : (xs ++ (List.replicate (k - i) 0 ++ be i n)).set (xs.length + (k - 1 - i)) (UInt8.ofNat (n / 256 ^ i)) = xs ++ (List.replicate (k - (i + 1)) 0 ++ be (i + 1) n) := by
  rw [List.set_append_right _ _ (by omega), Nat.add_sub_cancel_left, List.set_append_left _ _ (by simp; omega)]
  congr 1
  rw [be, show k - i = (k - (i + 1)) + 1 by omega, List.replicate_succ', List.set_append_right _ _ (by simp; omega)]
  rw [List.length_replicate, show k - 1 - i - (k - (i + 1)) = 0 by omega]
  simp
theorem set_coin (xs : List UInt8) (n : Nat) : (xs ++ be (sz n) n).set xs.length (UInt8.ofNat (n / 256 ^ (sz n - 1) + ones (sz n - 1))) = xs ++ coin n := by
  have hs := sz_le n
  rw [List.set_append_right _ _ (by omega), Nat.sub_self]
  congr 1
  unfold coin
  have e : sz n = sz n - 1 + 1 := by omega
  conv => lhs; rw [e, be]
  simp only [Nat.add_sub_cancel, List.set_cons_zero]
theorem or_ones (k t : Nat) (h1 : 1 ≤ k) (h9 : k ≤ 9) (ht : t < 2 ^ (8 - k)) : t ||| ones (k - 1) = t + ones (k - 1) := by
  have h128 : t < 129 := by
    have : 2 ^ (8 - k) ≤ 2 ^ 7 := Nat.pow_le_pow_right (by decide) (by omega)
    omega
  have h := (by decide +kernel : ∀ k : Fin 10, ∀ t : Fin 129, 1 ≤ k.val → t.val < 2 ^ (8 - k.val) → t.val ||| ones (k.val - 1) = t.val + ones (k.val - 1)) ⟨k, by omega⟩ ⟨t, h128⟩ h1 ht
  exact h
end Go.Proofs.YtdbhgkbmbbjpdaaGreatDoor.Coin
namespace Go.Proofs.YtdbhgkbmbbjpdaaGreatDoor.Tal
def low (x : Nat) : Nat := if x % 2 = 1 then x / 2 ^^^ 2197175160 else x / 2
def lowN : Nat → Nat → Nat
  | 0, x => x
  | k + 1, x => low (lowN k x)
theorem xor_mod2 (x y : Nat) : (x ^^^ y) % 2 = (x % 2 + y % 2) % 2 := by
  have h := Nat.xor_mod_two_pow (a := x) (b := y) (n := 1)
  rw [Nat.pow_one] at h
  rw [h]
  rcases Nat.mod_two_eq_zero_or_one x with hx | hx <;> rcases Nat.mod_two_eq_zero_or_one y with hy | hy <;> rw [hx, hy] <;> rfl
theorem low_xor (x y : Nat) : low (x ^^^ y) = low x ^^^ low y := by
  unfold low
  have hd : (x ^^^ y) / 2 = x / 2 ^^^ y / 2 := Nat.xor_div_two
  rw [xor_mod2, hd]
  rcases Nat.mod_two_eq_zero_or_one x with hx | hx <;> rcases Nat.mod_two_eq_zero_or_one y with hy | hy <;> simp only [hx, hy] <;> simp
  · rw [Nat.xor_assoc]
  · rw [Nat.xor_assoc, Nat.xor_assoc, Nat.xor_comm 2197175160 (y / 2)]
  · rw [Nat.xor_assoc, Nat.xor_comm (y / 2), ← Nat.xor_assoc 2197175160, Nat.xor_self, Nat.zero_xor]
theorem lowN_xor (k x y : Nat) : lowN k (x ^^^ y) = lowN k x ^^^ lowN k y := by
  induction k with
  | zero => rfl
  | succ k ih => simp only [lowN, ih, low_xor]
theorem low_lt (x : Nat) (h : x < 4294967296) : low x < 4294967296 := by
  unfold low
  split
  · exact Nat.xor_lt_two_pow (n := 32) (by omega) (by omega)
  · omega
theorem lowN_lt (k x : Nat) (h : x < 4294967296) : lowN k x < 4294967296 := by
  induction k with
  | zero => exact h
  | succ k ih => exact low_lt _ ih
theorem low_double (x : Nat) : low (2 * x) = x := by unfold low; rw [if_neg (by omega)]; omega
theorem lowN_succ (k x : Nat) : lowN (k + 1) x = lowN k (low x) := by
  induction k with
  | zero => rfl
  | succ k ih => rw [lowN, ih]; rfl
theorem lowN_shift (k x : Nat) : lowN k (x * 2 ^ k) = x := by
  induction k generalizing x with
  | zero => simp [lowN]
  | succ k ih =>
    have e : x * 2 ^ (k + 1) = 2 * (x * 2 ^ k) := by rw [Nat.pow_succ, ← Nat.mul_assoc, Nat.mul_comm]
    rw [lowN_succ, e, low_double, ih]
def tab (b : Nat) : Nat := lowN 8 b
theorem tab_lt (b : Nat) (h : b < 256) : tab b < 4294967296 := lowN_lt 8 b (by omega)
def step (r : Nat) (b : UInt8) : Nat := lowN 8 (r ^^^ b.toNat)
theorem join_xor (i x y : Nat) (hy : y < 2 ^ i) : x * 2 ^ i ^^^ y = x * 2 ^ i + y := by
  apply Nat.eq_of_testBit_eq
  intro j
  rw [Nat.testBit_xor, Nat.mul_comm x, Nat.testBit_two_pow_mul, Nat.testBit_two_pow_mul_add _ hy]
  by_cases h : j < i
  · simp [h, show ¬ i ≤ j by omega]
  · have : y.testBit j = false := Nat.testBit_lt_two_pow (Nat.lt_of_lt_of_le hy (Nat.pow_le_pow_right (by decide) (by omega)))
    simp [h, this]; intro h2; omega
theorem step_eq (r : Nat) (b : UInt8) : step r b = r / 256 ^^^ tab (r % 256 ^^^ b.toNat) := by
  unfold step tab
  have e : r = r / 256 * 2 ^ 8 ^^^ r % 256 := by rw [join_xor 8 _ _ (by omega)]; omega
  conv => lhs; rw [e, Nat.xor_assoc, lowN_xor, lowN_shift]
def crc (r : Nat) (l : List UInt8) : Nat := l.foldl step r
theorem step_lt (r : Nat) (b : UInt8) (h : r < 4294967296) : step r b < 4294967296 := by
  have hb : b.toNat < 256 := b.toNat_lt
  exact lowN_lt 8 _ (Nat.xor_lt_two_pow (n := 32) (by omega) (by omega))
theorem crc_snoc (r : Nat) (l : List UInt8) (b : UInt8) : crc r (l ++ [b]) = step (crc r l) b := by simp [crc]
def more (s : Nat) (l : List UInt8) : Nat := 4294967295 - crc (4294967295 - s) l
theorem more_lt (s : Nat) (l : List UInt8) : more s l < 4294967296 := by unfold more; omega
def bitAt (l : List UInt8) (i : Nat) : Nat := (l.getD (i / 8) 0).toNat / 2 ^ (i % 8) % 2
def feed (e : Nat → Nat) (r : Nat) : Nat → Nat
  | 0 => r
  | i + 1 => low (feed e r i ^^^ e i)
theorem feed_bits (e : Nat → Nat) (r v s : Nat) : ∀ t, (∀ j, j < t → e (s + j) = v / 2 ^ j % 2) → feed e r (s + t) = lowN t (feed e r s ^^^ v % 2 ^ t) := by
  intro t
  induction t with
  | zero => intro _; simp [lowN, Nat.mod_one]
  | succ t ih =>
    intro h
    rw [← Nat.add_assoc, feed, ih fun j hj => h j (by omega), h t (by omega), lowN]
    have e1 : v % 2 ^ (t + 1) = v / 2 ^ t % 2 * 2 ^ t ^^^ v % 2 ^ t := by
      rw [join_xor _ _ _ (Nat.mod_lt _ (Nat.two_pow_pos t)), Nat.mod_pow_succ, Nat.mul_comm, Nat.add_comm]
    have e2 : lowN t (feed e r s ^^^ v % 2 ^ (t + 1)) = lowN t (feed e r s ^^^ v % 2 ^ t) ^^^ v / 2 ^ t % 2 := by
      rw [e1, Nat.xor_comm (v / 2 ^ t % 2 * 2 ^ t), ← Nat.xor_assoc, lowN_xor, lowN_shift]
    rw [e2]
theorem feed_byte (l : List UInt8) (r j t : Nat) (ht : t ≤ 8) : feed (bitAt l) r (8 * j + t) = lowN t (feed (bitAt l) r (8 * j) ^^^ (l.getD j 0).toNat % 2 ^ t) := by
  refine feed_bits _ _ _ _ t fun i hi => ?_
  unfold bitAt
  have e1 : (8 * j + i) / 8 = j := by omega
  have e2 : (8 * j + i) % 8 = i := by omega
  rw [e1, e2]
theorem feed_crc (l : List UInt8) (r j : Nat) (hj : j ≤ l.length) : feed (bitAt l) r (8 * j) = crc r (l.take j) := by
  induction j with
  | zero => rfl
  | succ j ih =>
    have hb : (l.getD j 0).toNat < 256 := UInt8.toNat_lt _
    have e : l.getD j 0 = l[j] := by simp [List.getD, show j < l.length by omega]
    rw [Nat.mul_succ, feed_byte l r j 8 (by omega), ih (by omega), List.take_succ_eq_append_getElem (by omega), crc_snoc, step, Nat.mod_eq_of_lt (by simpa using hb), e]
theorem crc_feed (l : List UInt8) (r : Nat) : crc r l = feed (bitAt l) r (8 * l.length) := by
  rw [feed_crc l r l.length (Nat.le_refl _), List.take_length]
end Go.Proofs.YtdbhgkbmbbjpdaaGreatDoor.Tal
namespace Go.Proofs.YtdbhgkbmbbjpdaaGreatDoor.Frm
open Coin Tal
def tailb (s : Nat) : List UInt8 := [UInt8.ofNat s, UInt8.ofNat (s / 256), UInt8.ofNat (s / 65536), UInt8.ofNat (s / 16777216)]
def head (kind : UInt8) (p : List UInt8) : List UInt8 := coin p.length ++ kind :: p
def pack (kind : UInt8) (p : List UInt8) : List UInt8 := head kind p ++ tailb (more 0 (head kind p))
theorem length_head (kind : UInt8) (p : List UInt8) : (head kind p).length = sz p.length + 1 + p.length := by simp [head, length_coin]; omega
theorem length_tailb (s : Nat) : (tailb s).length = 4 := rfl
theorem length_pack (kind : UInt8) (p : List UInt8) : (pack kind p).length = sz p.length + 1 + p.length + 4 := by rw [pack, List.length_append, length_head, length_tailb]
def wid (r : List UInt8) : Nat := (got r).2.1
def cnt (r : List UInt8) : Nat := (got r).1
def size (r : List UInt8) : Nat := wid r + 1 + cnt r + 4
def body (r : List UInt8) : List UInt8 := (r.drop (wid r + 1)).take (cnt r)
def kind (r : List UInt8) : UInt8 := r.getD (wid r) 0
def summed (r : List UInt8) : List UInt8 := r.take (wid r + 1 + cnt r)
def summ (r : List UInt8) : List UInt8 := (r.drop (wid r + 1 + cnt r)).take 4
def err (r : List UInt8) : Nat :=
  if (got r).2.2 ≠ 0 then (got r).2.2 else if 1048576 < cnt r then 6 else if r.length < size r then 5 else if tailb (more 0 (summed r)) = summ r then 0 else 4
theorem got_len (r : List UInt8) (h : (got r).2.2 = 0) : sz (cnt r) = wid r ∧ coin (cnt r) = r.take (wid r) ∧ 1 ≤ wid r ∧ wid r ≤ r.length ∧ cnt r < 18446744073709551616 := by
  unfold cnt wid
  rcases r with _ | ⟨b, r⟩
  · simp [got] at h
  · simp only [got] at h ⊢
    by_cases h1 : r.length + 1 < lead b.toNat
    · rw [if_pos h1] at h; simp at h
    · rw [if_neg h1] at h ⊢
      by_cases h2 : sz (val b r) = lead b.toNat
      · rw [if_pos h2]
        exact ⟨h2, coin_val b r (by omega) h2, (lead_le _).1, by simp; omega, val_lt b r (by omega)⟩
      · rw [if_neg h2] at h; simp at h
theorem err_ok (r : List UInt8) (h : err r = 0) : (got r).2.2 = 0 ∧ cnt r ≤ 1048576 ∧ size r ≤ r.length ∧ tailb (more 0 (summed r)) = summ r := by
  unfold err at h
  split at h
  · omega
  · split at h
    · omega
    · split at h
      · omega
      · split at h
        · refine ⟨by omega, by omega, by omega, by assumption⟩
        · omega
theorem of_pack (k : UInt8) (p r : List UInt8) (hp : p.length ≤ 1048576) : wid (pack k p ++ r) = sz p.length ∧ cnt (pack k p ++ r) = p.length ∧ (got (pack k p ++ r)).2.2 = 0 ∧ size (pack k p ++ r) = (pack k p).length := by
  have h := got_coin p.length (by omega) (k :: p ++ tailb (more 0 (head k p)) ++ r)
  have e : pack k p ++ r = coin p.length ++ (k :: p ++ tailb (more 0 (head k p)) ++ r) := by simp [pack, head]
  unfold size wid cnt
  rw [length_pack, e, h]
  exact ⟨rfl, rfl, rfl, rfl⟩
theorem err_pack (k : UInt8) (p r : List UInt8) (hp : p.length ≤ 1048576) : err (pack k p ++ r) = 0 ∧ size (pack k p ++ r) = (pack k p).length ∧ body (pack k p ++ r) = p ∧ kind (pack k p ++ r) = k := by
  obtain ⟨h1, h2, h3, h4⟩ := of_pack k p r hp
  have hs : summed (pack k p ++ r) = head k p := by
    unfold summed
    rw [h1, h2, pack, List.append_assoc, List.take_append_of_le_length (by rw [length_head]; omega), List.take_of_length_le (by rw [length_head]; omega)]
  have ht : summ (pack k p ++ r) = tailb (more 0 (head k p)) := by
    unfold summ
    rw [h1, h2, pack, List.append_assoc, ← length_head k p, List.drop_left, List.take_append_of_le_length (by simp [tailb]), List.take_of_length_le (by simp [tailb])]
  refine ⟨?_, h4, ?_, ?_⟩
  · unfold err
    rw [h3, h2, h4, hs, ht, if_neg (by omega), if_neg (by omega), if_neg (by simp), if_pos rfl]
  · unfold body
    have e : pack k p ++ r = (coin p.length ++ [k]) ++ (p ++ (tailb (more 0 (head k p)) ++ r)) := by simp [pack, head]
    have hl : (coin p.length ++ [k]).length = sz p.length + 1 := by simp [length_coin]
    rw [h1, h2, e, ← hl, List.drop_left, List.take_left]
  · unfold kind
    have e : pack k p ++ r = coin p.length ++ (k :: (p ++ (tailb (more 0 (head k p)) ++ r))) := by simp [pack, head]
    rw [h1, e, List.getD, List.getElem?_append_right (by rw [length_coin]; omega), length_coin, Nat.sub_self]
    rfl
def chain (l : List UInt8) : Nat → List Nat → Nat → Prop
  | a, [], b => a = b
  | a, x :: xs, b => x = a ∧ a < l.length ∧ err (l.drop a) = 0 ∧ chain l (a + size (l.drop a)) xs b
def ends (l : List UInt8) (b e : Nat) : Prop := (b = l.length ∧ e = 0) ∨ (b < l.length ∧ err (l.drop b) = e ∧ e ≠ 0)
theorem chain_le (l : List UInt8) (xs : List Nat) : ∀ a b, a ≤ l.length → chain l a xs b → a ≤ b ∧ b ≤ l.length := by
  induction xs with
  | nil => intro a b h hc; have : a = b := hc; omega
  | cons x xs ih =>
    intro a b h hc
    obtain ⟨rfl, h1, h2, h3⟩ := hc
    have := (err_ok _ h2).2.2.1
    rw [List.length_drop] at this
    have := ih _ _ (by omega) h3
    omega
theorem chain_snoc (l : List UInt8) (xs : List Nat) : ∀ a b, chain l a xs b → b < l.length → err (l.drop b) = 0 → chain l a (xs ++ [b]) (b + size (l.drop b)) := by
  induction xs with
  | nil => intro a b hc h1 h2; obtain rfl : a = b := hc; exact ⟨rfl, h1, h2, rfl⟩
  | cons x xs ih =>
    intro a b hc h1 h2
    obtain ⟨rfl, h3, h4, h5⟩ := hc
    exact ⟨rfl, h3, h4, ih _ _ h5 h1 h2⟩
theorem chain_length (l : List UInt8) (xs : List Nat) : ∀ a b, a ≤ l.length → chain l a xs b → a + xs.length ≤ b := by
  induction xs with
  | nil => intro a b _ hc; have : a = b := hc; simp; omega
  | cons x xs ih =>
    intro a b h hc
    obtain ⟨rfl, h1, h2, h3⟩ := hc
    have := (err_ok _ h2).2.2.1
    rw [List.length_drop] at this
    have := ih _ _ (by omega) h3
    have : 1 ≤ size (l.drop x) := by unfold size; omega
    simp; omega
theorem chain_next (l : List UInt8) (xs : List Nat) (a b e : Nat) (ha : a < l.length) (hc : chain l a xs b) (he : ends l b e) : (err (l.drop a) ≠ 0 → xs = [] ∧ b = a ∧ e = err (l.drop a)) ∧ (err (l.drop a) = 0 → ∃ ys, xs = a :: ys ∧ chain l (a + size (l.drop a)) ys b) := by
  rcases xs with _ | ⟨x, xs⟩
  · obtain rfl : a = b := hc
    rcases he with ⟨h1, h2⟩ | ⟨h1, h2, h3⟩
    · omega
    · exact ⟨fun _ => ⟨rfl, rfl, h2.symm⟩, fun h => absurd (h2.symm.trans h) h3⟩
  · obtain ⟨rfl, h1, h2, h3⟩ := hc
    exact ⟨fun h => absurd h2 h, fun _ => ⟨xs, rfl, h3⟩⟩
theorem chain_end (l : List UInt8) (xs : List Nat) (a b e : Nat) (ha : a = l.length) (hc : chain l a xs b) (he : ends l b e) : xs = [] ∧ b = a ∧ e = 0 := by
  rcases xs with _ | ⟨x, xs⟩
  · obtain rfl : a = b := hc
    rcases he with ⟨h1, h2⟩ | ⟨h1, h2, h3⟩
    · exact ⟨rfl, rfl, h2⟩
    · omega
  · obtain ⟨rfl, h1, h2, h3⟩ := hc
    omega
theorem chain_one (l : List UInt8) (xs : List Nat) : ∀ a b e ys b' e', chain l a xs b → ends l b e → chain l a ys b' → ends l b' e' → a ≤ l.length → xs = ys ∧ b = b' ∧ e = e' := by
  induction xs with
  | nil =>
    intro a b e ys b' e' h1 h2 h3 h4 ha
    obtain rfl : a = b := h1
    by_cases hl : a = l.length
    · obtain ⟨rfl, rfl, rfl⟩ := chain_end l ys a b' e' hl h3 h4
      rcases h2 with ⟨_, rfl⟩ | ⟨h, _⟩
      · exact ⟨rfl, rfl, rfl⟩
      · omega
    · rcases h2 with ⟨h, _⟩ | ⟨h, h5, h6⟩
      · omega
      · obtain ⟨rfl, rfl, rfl⟩ := (chain_next l ys a b' e' h h3 h4).1 (by rw [h5]; exact h6)
        exact ⟨rfl, rfl, h5.symm⟩
  | cons x xs ih =>
    intro a b e ys b' e' h1 h2 h3 h4 ha
    obtain ⟨rfl, h5, h6, h7⟩ := h1
    obtain ⟨ys, rfl, h8⟩ := (chain_next l ys x b' e' h5 h3 h4).2 h6
    have := (err_ok _ h6).2.2.1
    rw [List.length_drop] at this
    obtain ⟨rfl, rfl, rfl⟩ := ih _ _ _ _ _ _ h7 h2 h8 h4 (by omega)
    exact ⟨rfl, rfl, rfl⟩
def last (k : Nat) : Nat → List Nat → Nat
  | a, [] => a
  | a, x :: xs => if x ≤ k then last k x xs else a
end Go.Proofs.YtdbhgkbmbbjpdaaGreatDoor.Frm
namespace Go.Proofs.YtdbhgkbmbbjpdaaGreatDoor.Coin
open Go.ChangeShapes Go.WideShapes Go.ChangeAt Go.RowKit
theorem ret_bool {a b : Bool} (h : a = b) : Ending.returned (.bool a) = .returned (.bool b) := by rw [h]
theorem ret_int {k : IntKind} {a b : Int} (h : a = b) : Ending.returned (.int k a) = .returned (.int k b) := by rw [h]
theorem len_lt (n : Nat) (hn : n < 18446744073709551616) (k : Nat) : Lib.bitLen n ≤ k ↔ n < 2 ^ k := by
  have hb := Lib.bitLenAux_bounds 64 n (by omega)
  have hz := Lib.bitLenAux_zero 64
  unfold Lib.bitLen
  by_cases h0 : n = 0
  · subst h0
    rw [hz]
    exact ⟨fun _ => Nat.pow_pos (by decide), fun _ => Nat.zero_le _⟩
  · obtain ⟨h1, h2, h3⟩ := hb h0
    generalize Lib.bitLenAux 64 n = L at *
    constructor
    · intro h
      exact Nat.lt_of_lt_of_le h3 (Nat.pow_le_pow_right (by decide) h)
    · intro h
      rcases Nat.lt_or_ge k L with hk | hk
      · have := Nat.pow_le_pow_right (n := 2) (by decide) (show k ≤ L - 1 by omega)
        omega
      · exact hk
theorem sz_len (n : Nat) (hn : n < 18446744073709551616) : sz n = min (max ((Lib.bitLen n + 6) / 7) 1) 9 := by
  have h := len_lt n hn
  have h1 := h 7
  have h2 := h 14
  have h3 := h 21
  have h4 := h 28
  have h5 := h 35
  have h6 := h 42
  have h7 := h 49
  have h8 := h 56
  simp only [Nat.reducePow] at h1 h2 h3 h4 h5 h6 h7 h8
  clear h
  generalize Lib.bitLen n = L at *
  unfold sz
  repeat' split
  all_goals omega
theorem len_le (n : Nat) (hn : n < 18446744073709551616) : Lib.bitLen n ≤ 64 := (len_lt n hn 64).2 (by omega)
theorem size_any (n : Nat) (hn : n < 18446744073709551616) (w : World) :
    Calls Tryz.prog 88 #[.int .u64 n] w fun e w' => e = .returned (.int .i64 (sz n : Nat)) ∧ w = w' := by
  have hs := sz_len n hn
  have hl := len_le n hn
  have c := Tryz.bits_Len64 n w (by omega) (by omega)
  simp only [Int.toNat_natCast] at c
  generalize Lib.bitLen n = L at *
  have S := Lib.hid hs
  clear hs
  go_enter Tryz.func88, Tryz.ntmps88
  go_wp2_with (go_at_call 112; refine c.mono ?_; rintro e w' ⟨rfl, rfl⟩)
  go_ret
  refine ⟨ret_int ?_, rfl⟩
  rw [S.out]
  omega
theorem ones_any (k : Nat) (hk : k ≤ 8) (w : World) :
    Calls Tryz.prog 116 #[.int .i64 k] w fun e w' => e = .returned (.int .u8 (ones k : Nat)) ∧ w = w' := by
  go_enter Tryz.func116, Tryz.ntmps116
  go_wp2
  go_ret
  refine ⟨ret_int ?_, rfl⟩
  rcases (by omega : k = 0 ∨ k = 1 ∨ k = 2 ∨ k = 3 ∨ k = 4 ∨ k = 5 ∨ k = 6 ∨ k = 7 ∨ k = 8) with h | h | h | h | h | h | h | h | h <;> subst h <;> decide +kernel
theorem wrap_u64 (n : Int) : IntKind.u64.wrap n = n % 18446744073709551616 := by simp [IntKind.wrap, IntKind.bits, IntKind.signed]
theorem len_half (m : Nat) (h0 : 0 < m) (hm : m < 18446744073709551616) : Lib.bitLen m = 1 + Lib.bitLen (m / 2) := by
  have a := len_lt m hm
  have b := len_lt (m / 2) (by omega)
  have c : ∀ k, Lib.bitLen m ≤ k + 1 ↔ Lib.bitLen (m / 2) ≤ k := fun k => by rw [a, b, Nat.pow_succ]; omega
  have h1 : 1 ≤ Lib.bitLen m := by
    rcases Nat.eq_zero_or_pos (Lib.bitLen m) with h | h
    · have := (a 0).1 (by omega)
      simp at this; omega
    · exact h
  have := (c (Lib.bitLen m - 1)).1 (by omega)
  have := (c (Lib.bitLen (m / 2))).2 (by omega)
  omega
theorem bits_any (n : Nat) (hn : n < 18446744073709551616) (w : World) :
    Calls Tryz.prog 86 #[.int .u64 n] w fun e w' => e = .returned (.int .i64 (Lib.bitLen n : Nat)) ∧ w = w' := by
  have hle := len_le n hn
  go_enter Tryz.func86, Tryz.ntmps86
  go_wp2
  go_loop [0, 3] (fun x j => ∃ k m : Nat, k ≤ 64 ∧ m < 18446744073709551616 ∧ j = .int .i64 k ∧ x = .int .u64 m ∧ Hid (Lib.bitLen n = k + Lib.bitLen m)) (fun x _ => (intOf x).toNat)
  case atStart => exact ⟨0, n, by omega, by omega, rfl, rfl, by simp [Hid]⟩
  case round =>
    obtain ⟨k, m, hk, hm, rfl, rfl, H⟩ := hrel
    by_cases hlt : 0 < m
    · have h := len_half m hlt hm
      have hk1 : k + 1 ≤ 64 := by have := H.out; omega
      have HL := Lib.hid h
      clear h
      go_wp2
      go_round
      case rel => exact ⟨k + 1, m / 2, hk1, by omega, by go_num, by go_num, show _ = _ by have := H.out; have := HL.out; omega⟩
      case measure => simp [intOf]; omega
    · obtain rfl : m = 0 := by omega
      go_wp2
      go_ret
      refine ⟨ret_int ?_, rfl⟩
      have := H.out
      have h0 : Lib.bitLen 0 = 0 := by decide
      omega
theorem lz8_any (b : Nat) (hb : b < 256) (w : World) :
    Calls Tryz.prog 137 #[.int .u8 (255 - b : Nat)] w fun e w' => e = .returned (.int .i64 (lead b - 1 : Nat)) ∧ w = w' := by
  refine (Tryz.bits_LeadingZeros8 (255 - b : Nat) w (by omega) (by omega)).mono ?_
  rintro e w' ⟨rfl, rfl⟩
  refine ⟨ret_int ?_, rfl⟩
  have h := (by decide +kernel : ∀ b : Fin 256, (8 - (Lib.bitLen ((255 - b.val : Nat) : Int).toNat : Int)) = ((lead b.val - 1 : Nat) : Int)) ⟨b, hb⟩
  exact h
end Go.Proofs.YtdbhgkbmbbjpdaaGreatDoor.Coin
namespace Go.Proofs.YtdbhgkbmbbjpdaaGreatDoor.Coin
open Go.ChangeShapes Go.WideShapes Go.ChangeAt Go.RowKit
def b8 (b : UInt8) : Value := .int .u8 (b.toNat : Int)
def Rd (w : World) (B : Nat) (A : Option Addr) (l : List UInt8) : Prop := 0 < l.length → ∃ ad : Addr, A = some ad ∧ ad.block < B ∧ ∀ j (hj : j < l.length), w.cell? (ad.add j) = some (b8 l[j])
def Row (w : World) (g : Nat) (l : List UInt8) : Prop := w.heap[g]? = some (.cells (l.map b8).toArray 5 (0, 0))
theorem block_add (a : Addr) (n : Nat) : (a.add n).block = a.block := by unfold Addr.add; split <;> rfl
theorem add_add (a : Addr) (i j : Nat) : (a.add i).add j = a.add (i + j) := by
  unfold Addr.add
  by_cases hi : i = 0 <;> by_cases hj : j = 0 <;> simp [hi, hj, Nat.add_assoc]
theorem zero_add' (g j : Nat) : (⟨g, 0, none⟩ : Addr).add j = ⟨g, j, none⟩ := by
  unfold Addr.add; split <;> simp_all
theorem Rd.keep {w w' : World} {B : Nat} {A : Option Addr} {l : List UInt8} (h : Rd w B A l) (hk : ∀ p : Addr, p.block < B → w'.cell? p = w.cell? p) : Rd w' B A l := fun h0 => by
  obtain ⟨ad, e, hb, hc⟩ := h h0
  exact ⟨ad, e, hb, fun j hj => (hk _ (by rw [block_add]; exact hb)).trans (hc j hj)⟩
theorem Rd.below {w w' : World} {B B' : Nat} {A : Option Addr} {l : List UInt8} (h : Rd w B A l) (hb : Below B' w w') (hB : B ≤ B') : Rd w' B A l := h.keep fun _ hp => hb.cell (Nat.lt_of_lt_of_le hp hB)
theorem Rd.more {w : World} {B B' : Nat} {A : Option Addr} {l : List UInt8} (h : Rd w B A l) (hB : B ≤ B') : Rd w B' A l := fun h0 => by
  obtain ⟨ad, e, hb, hc⟩ := h h0
  exact ⟨ad, e, Nat.lt_of_lt_of_le hb hB, hc⟩
theorem Rd.nil (w : World) (B : Nat) (A : Option Addr) : Rd w B A [] := fun h => by simp at h
theorem Rd.cut {w : World} {B : Nat} {A : Option Addr} {l : List UInt8} (h : Rd w B A l) (k : Nat) : Rd w B (A.map (·.add k)) (l.drop k) := fun h0 => by
  have hk : k < l.length := by simp at h0; omega
  obtain ⟨ad, rfl, hb, hc⟩ := h (by omega)
  refine ⟨ad.add k, rfl, by rw [block_add]; exact hb, fun j hj => ?_⟩
  rw [add_add, hc (k + j) (by simp at hj; omega)]
  simp
theorem Rd.take {w : World} {B : Nat} {A : Option Addr} {l : List UInt8} (h : Rd w B A l) (k : Nat) : Rd w B A (l.take k) := fun h0 => by
  simp at h0
  obtain ⟨ad, rfl, hb, hc⟩ := h (by omega)
  refine ⟨ad, rfl, hb, fun j hj => ?_⟩
  rw [hc j (by simp at hj; omega)]
  simp
theorem Row.lt {w : World} {g : Nat} {l : List UInt8} (h : Row w g l) : g < w.heap.size := by
  rcases Nat.lt_or_ge g w.heap.size with hlt | hge
  · exact hlt
  · unfold Row at h; rw [Array.getElem?_eq_none hge] at h; cases h
theorem Row.cell {w : World} {g : Nat} {l : List UInt8} (h : Row w g l) (j : Nat) (hj : j < l.length) : w.cell? ⟨g, j, none⟩ = some (b8 l[j]) := by
  rw [cell_of_row w g j _ 5 (0, 0) h]
  simp [hj]
theorem Row.frozen {w : World} {g : Nat} {l : List UInt8} (h : Row w g l) (j : Nat) : w.frozen? ⟨g, j, none⟩ = false := frozen_of_row w g j _ 5 h
theorem Row.rd {w : World} {g : Nat} {l : List UInt8} (h : Row w g l) : Rd w w.heap.size (some ⟨g, 0, none⟩) l := fun _ =>
  ⟨_, rfl, h.lt, fun j hj => by rw [zero_add']; exact h.cell j hj⟩
theorem Row.below {w w' : World} {g B : Nat} {l : List UInt8} (h : Row w g l) (hb : Below B w w') (hg : g < B) : Row w' g l := (hb.block g hg).trans h
theorem Row.set {w : World} {g : Nat} {l : List UInt8} (h : Row w g l) (j : Nat) (b : UInt8) : Row (w.setCell ⟨g, j, none⟩ (b8 b)) g (l.set j b) := by
  unfold Row at h ⊢
  rw [heap_setCell_same w g j _ 5 _ h]
  simp [List.map_set]
theorem Row.new (w : World) (n : Nat) : Row (w.alloc (.cells (madeCells #[.int .u8 0] n) 5)) w.heap.size (List.replicate n 0) := by
  unfold Row
  rw [heap_alloc_new]
  have e : ((List.replicate n (0 : UInt8)).map b8).toArray = madeCells #[.int .u8 0] n := by
    apply Array.toList_inj.1
    rw [toList_madeCells_one]
    simp [b8]
  rw [e]
theorem info5 : (Tryz.prog.info? 5).map (fun i => (i.zero, i.size, i.bytes)) = some (some (.int .u8 0), 1, 1) := by kernel_rfl
theorem size5 : (Tryz.prog.info? 5).map (·.size) = some 1 := by kernel_rfl
theorem make_any (n : Nat) (h : n ≤ 1300000) : ∀ w : World, (Instr.makeSlice 30 (.int .i64 (n : Int)) (.int .i64 (n : Int))).run Tryz.prog w = .ok (.slice (some ⟨w.heap.size, 0, none⟩) n n) (w.alloc (.cells (madeCells #[.int .u8 0] n) 5)) :=
  fun w => run_make_row' (P := Tryz.prog) 30 5 (.int .u8 0) 1 Tryz.underlying30 info5 rfl .i64 .i64 n (by omega) (by omega) w
theorem one_b8 (l : List UInt8) : ∀ v ∈ l.map b8, v.oneCell' = true := by
  intro v hv
  obtain ⟨b, _, rfl⟩ := List.mem_map.1 hv
  rfl
theorem Rd.src {w : World} {B : Nat} {A : Option Addr} {l : List UInt8} (h : Rd w B A l) (h0 : 0 < l.length) : ∃ ad, A = some ad ∧ ∀ j v, (l.map b8)[j]? = some v → w.cell? (ad.add j) = some v := by
  obtain ⟨ad, e, _, hc⟩ := h h0
  refine ⟨ad, e, fun j v hv => ?_⟩
  obtain ⟨hj, rfl⟩ := List.getElem?_eq_some_iff.1 hv
  simp at hj
  rw [hc j hj]; simp
theorem b8_ofNat (x : Nat) : b8 (UInt8.ofNat x) = .int .u8 ((x : Int) % 256) := by simp [b8]
theorem b8_small (x : Nat) (h : x < 256) : b8 (UInt8.ofNat x) = .int .u8 (x : Int) := by rw [b8_ofNat]; congr 1; omega
theorem copy_row {w : World} {ops : Array Oper} {rest : List Oper} {o : Oper} {a : Act} {Q : Exit → Act → World → Prop} (hgd : o.guard = none) (d s : Operand)
    (ho : o.op = .call { callee := .builtin .copy, args := #[d, s], argTypes := #[30, 30] }) (g L m cap : Nat) (A : Option Addr) (hd : a.eval d = .slice (some ⟨g, 0, none⟩) L L) (hs : a.eval s = .slice A m cap)
    (l : List UInt8) (hn : l.length = Nat.min m L) (B : Nat) (hr : Rd w B A l) (hg : Row w g (List.replicate L 0)) (B0 : Nat) (w0 : World) (hb : Below B0 w0 w) (hB : B0 ≤ g)
    (h : ∀ w', Row w' g (l ++ List.replicate (L - l.length) 0) → Below B0 w0 w' → wpList Tryz.prog ops Q rest (a.put o.dst (.int .i64 (l.length : Nat))) w') : wpList Tryz.prog ops Q (o :: rest) a w := by
  have hle : l.length ≤ L := by rw [hn]; exact Nat.min_le_right _ _
  refine wpList_copy_splice hgd d s 30 30 ho 5 Tryz.underlying30 size5 _ A L L m cap hd hs g 0 ((List.replicate L (0 : UInt8)).map b8) 5 hg (l.map b8) (by simpa using hn) (fun h0 => ⟨rfl, hr.src (by simpa using h0)⟩) (by simpa using hle) (one_b8 l) B0 w0 hb hB ?_
  intro w' hw' hb'
  have e : goInt (List.map b8 l).length = .int .i64 (l.length : Nat) := by simp [goInt]
  rw [e]
  refine h w' ?_ hb'
  have := hw'.out
  unfold Row
  rw [this]
  simp [splice]
def str (l : List UInt8) : ByteArray := ⟨l.toArray⟩
theorem str_toList (l : List UInt8) : (str l).toList = l := by rw [ByteArray.toList_eq]; rfl
theorem conv_any {w : World} {B : Nat} {A : Option Addr} {l : List UInt8} (h : Rd w B A l) (m cap : Nat) (hm : m = l.length) : (convert 30 9 (.slice A m cap)).run Tryz.prog w = .ok (.string (str l)) w := by
  subst hm
  by_cases h0 : 0 < l.length
  · obtain ⟨ad, rfl, _, hc⟩ := h h0
    exact run_convert_bytes_back w 30 9 5 ad cap l Tryz.underlying30 Tryz.underlying5 Tryz.underlying9 hc
  · obtain rfl : l = [] := List.eq_nil_of_length_eq_zero (by omega)
    rw [run_convert_bytes_string w 30 9 5 A _ cap Tryz.underlying30 Tryz.underlying5 Tryz.underlying9]
    rcases A with _ | ad
    · rfl
    · exact run_bytesToString w ad 0 cap [] (run_loadCells_list (P := Tryz.prog) w ad [] (by intro j v hv; simp at hv))
end Go.Proofs.YtdbhgkbmbbjpdaaGreatDoor.Coin
namespace Go.Proofs.YtdbhgkbmbbjpdaaGreatDoor.Coin
open Go.ChangeShapes Go.WideShapes Go.ChangeAt Go.RowKit
set_option maxRecDepth 4000 in
theorem put_any (A : Option Addr) (cap : Nat) (l : List UInt8) (n : Nat) (w : World) (hn : n < 18446744073709551616) (hl : l.length ≤ 900000) (hr : Rd w w.heap.size A l) :
    Calls Tryz.prog 92 #[.slice A l.length cap, .int .u64 n] w fun e w' => e = .returned (.slice (some ⟨w.heap.size, 0, none⟩) (l.length + sz n) (l.length + sz n)) ∧ Row w' w.heap.size (l ++ coin n) ∧ Below w.heap.size w w' := by
  have hs := sz_le n
  obtain ⟨m, hm⟩ : ∃ m, m = l.length := ⟨_, rfl⟩
  obtain ⟨k, hk⟩ : ∃ k, k = sz n := ⟨_, rfl⟩
  have hmk := make_any (m + k) (by omega)
  have ec : ((m + k : Nat) : Int) = (m : Int) + (k : Int) := by omega
  rw [ec] at hmk
  clear ec
  have cs := size_any n hn
  rw [← hk] at hs cs
  rw [← hm, ← hk]
  have HK := Lib.hid hk
  have HM := Lib.hid hm
  have hm' : m ≤ 900000 := by omega
  clear hk hm
  have R0 := Row.new w (m + k)
  have R1 : Rd (w.alloc (.cells (madeCells #[.int .u8 0] (m + k)) 5)) w.heap.size A l := hr.below ((Below.refl _ _).alloc (Nat.le_refl _) _) (Nat.le_refl _)
  have B1 : Below w.heap.size w (w.alloc (.cells (madeCells #[.int .u8 0] (m + k)) 5)) := (Below.refl _ _).alloc (Nat.le_refl _) _
  obtain ⟨w1, hw1⟩ : ∃ w1, w1 = w.alloc (.cells (madeCells #[.int .u8 0] (m + k)) 5) := ⟨_, rfl⟩
  rw [← hw1] at R0 R1 B1
  have hmk' : (Instr.makeSlice 30 (.int .i64 ((m : Int) + k)) (.int .i64 ((m : Int) + k))).run Tryz.prog w = .ok (.slice (some ⟨w.heap.size, 0, none⟩) (m + k) (m + k)) w1 := by rw [hw1]; exact hmk w
  clear hmk hw1
  go_enter Tryz.func92, Tryz.ntmps92
  go_wp2_with (first | (go_at_call 88; refine (cs _).mono ?_; rintro e w' ⟨rfl, rfl⟩) | (with_reducible refine copy_row rfl (.tmp 15) (.tmp 16) rfl w.heap.size (m + k) m cap A rfl rfl l ?c1 _ R1 R0 w.heap.size w B1 (Nat.le_refl _) ?_))
  case c1 => rw [← HM.out]; exact (Nat.min_eq_left (by omega)).symm
  intro w2 R2 B2
  clear R0 B1 R1 hmk'
  rw [← HM.out]
  go_wp2
  have R3 : Row w2 w.heap.size (l ++ (List.replicate (k - 0) 0 ++ be 0 n)) := by
    have e : m + k - l.length = k := by rw [← HM.out]; omega
    rw [e] at R2
    simpa [be] using R2
  clear R2
  go_loopw [1, 19] (fun x i wr => ∃ j : Nat, j ≤ k ∧ i = .int .i64 j ∧ x = .int .u64 (n / 256 ^ j : Nat) ∧ Row wr w.heap.size (l ++ (List.replicate (k - j) 0 ++ be j n)) ∧ Below w.heap.size w wr) (fun _ i _ => k - (intOf i).toNat)
  case atStart => exact ⟨0, by omega, rfl, by simp, R3, B2⟩
  case round =>
    obtain ⟨j, hj, rfl, rfl, R, B⟩ := hrel
    clear R3 B2
    by_cases hlt : j < k
    · have hx : n / 256 ^ j < 18446744073709551616 := Nat.lt_of_le_of_lt (Nat.div_le_self _ _) hn
      have hd := Lib.hid (show n / 256 ^ j / 256 = n / 256 ^ (j + 1) by rw [Nat.pow_succ, Nat.div_div_eq_div_mul])
      have hlen : (l ++ (List.replicate (k - j) 0 ++ be j n)).length = m + k := by simp [length_be]; have := HM.out; omega
      have ea : m + k - 1 - j = m + (k - 1 - j) := by omega
      obtain ⟨q, hcell⟩ : ∃ q : Int, wr.cell? ⟨w.heap.size, m + k - 1 - j, none⟩ = some (.int .u8 q) := ⟨_, R.cell (m + k - 1 - j) (by rw [hlen]; omega)⟩
      have hfz := R.frozen (m + k - 1 - j)
      have R' := R.set (m + k - 1 - j) (UInt8.ofNat (n / 256 ^ j))
      have hset := set_be l k j n hlt
      rw [← HM.out, ← ea] at hset
      rw [hset, b8_ofNat] at R'
      clear hset hlen ea
      have B' := B.setCell (p := ⟨w.heap.size, m + k - 1 - j, none⟩) (Nat.le_refl _) (.int .u8 ((n / 256 ^ j : Nat) % 256))
      generalize n / 256 ^ j = x at *
      go_wp2
      go_roundw
      case rel => exact ⟨j + 1, by omega, by go_num, by rw [← hd.out]; rfl, R', B'⟩
      case measure => simp [intOf]; omega
    · obtain rfl : j = k := by omega
      have ht := top_sz n hn
      have hor := or_ones (sz n) _ (sz_le n).1 (sz_le n).2 ht
      have hlo := (lead_top (sz n) _ (sz_le n).1 (sz_le n).2 ht).2
      have hset := set_coin l n
      rw [← HK.out] at ht hor hset hlo
      rw [Nat.sub_self, List.replicate_zero, List.nil_append] at R
      have hlen : (l ++ be j n).length = m + j := by simp [length_be]; have := HM.out; omega
      have hcell : wr.cell? ⟨w.heap.size, m, none⟩ = some (.int .u8 ((n / 256 ^ (j - 1) : Nat) : Int)) := by
        rw [R.cell m (by rw [hlen]; omega), ← b8_small _ (by omega)]
        congr 2
        rw [List.getElem_append_right (by have := HM.out; omega)]
        obtain ⟨i, rfl⟩ : ∃ i, j = i + 1 := ⟨j - 1, by omega⟩
        simp [be, HM.out]
      have hfz := R.frozen m
      have R' := R.set m (UInt8.ofNat (n / 256 ^ (j - 1) + ones (j - 1)))
      rw [← HM.out] at hset
      rw [hset, b8_small _ hlo] at R'
      have hb : bits .or .u8 ((n / 256 ^ (j - 1) : Nat) : Int) (ones (j - 1) : Nat) = ((n / 256 ^ (j - 1) + ones (j - 1) : Nat) : Int) := by
        rw [u8_or_nat _ _ (by omega) (by have : ones (j - 1) < 256 := by unfold ones; have := Nat.two_pow_pos (8 - (j - 1)); omega
                                         omega), hor]
      have hcell : wr.drew.cell? ⟨w.heap.size, m, none⟩ = some (.int .u8 ((n / 256 ^ (j - 1) : Nat) : Int)) := hcell
      have hfz : wr.drew.frozen? ⟨w.heap.size, m, none⟩ = false := hfz
      have R' : Row (wr.drew.setCell ⟨w.heap.size, m, none⟩ (.int .u8 ((n / 256 ^ (j - 1) + ones (j - 1) : Nat) : Int))) w.heap.size (l ++ coin n) := R'
      have B' := B.drew.setCell (p := ⟨w.heap.size, m, none⟩) (Nat.le_refl _) (.int .u8 ((n / 256 ^ (j - 1) + ones (j - 1) : Nat) : Int))
      have co := fun W => (ones_any (j - 1) (by omega) W).mono fun _ _ h => And.intro h.1 h.2.symm
      have ej : ((j - 1 : Nat) : Int) = (j : Int) - 1 := by omega
      rw [ej] at co
      clear hset hlen hor ht hlo ej
      generalize n / 256 ^ (j - 1) + ones (j - 1) = y at *
      generalize n / 256 ^ (j - 1) = x at *
      generalize ones (j - 1) = z at *
      go_wp2
      refine wp_region_still_tail 10 (by kernel_rfl) (by kernel_rfl) ?_
      simp only [List.take_succ_cons, List.take_zero, List.drop_succ_cons, List.drop_zero]
      change wpStill _ _ wr.drew (fun a' => wpList _ _ _ _ a' wr.drew) _ _
      generalize wr.drew = wd at *
      have hin : (m : Int) < (m : Int) + (j : Int) := by omega
      have hjw : IntKind.i64.wrap ((j : Int) - 1) = (j : Int) - 1 := by rw [IntKind.wrap_i64]; omega
      repeat still_step
      still_call (co _)
      repeat still_step
      refine wpStill_nil ?_
      go_wp2
      go_ret
      exact ⟨rfl, R', B'⟩
end Go.Proofs.YtdbhgkbmbbjpdaaGreatDoor.Coin
