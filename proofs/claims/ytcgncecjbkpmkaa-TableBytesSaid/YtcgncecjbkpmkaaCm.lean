/- Plain facts on changes as bytes: no Go in sight. -/
import Derived.Test.YtcgncecjbkpmkaaPrs
import Derived.Test.YtcgncecjbkpmkaaPFns
namespace Go.Proofs.Ytcgncecjbkpmkaa.Chg
open Coin

/-- A number out of a difference, and back. -/
def fold (n : Int) : Nat := if n < 0 then (-2 * n - 1).toNat else (2 * n).toNat
def openV (n : Nat) : Int := if n % 2 = 1 then -((n / 2 : Nat) : Int) - 1 else ((n / 2 : Nat) : Int)
theorem open_fold (n : Int) : openV (fold n) = n := by unfold openV fold; split <;> split <;> omega
theorem fold_lt (n : Int) (h1 : -65536 ≤ n) (h2 : n ≤ 65536) : fold n < 200000 := by unfold fold; split <;> omega

theorem take_coin (n : Nat) (hn : n < 18446744073709551616) (r : List UInt8) : takeV (coin n ++ r) 0 18446744073709551615 = (n, r, 0) := by
  have h := got_coin n hn r
  have h2 : (coin n ++ r).drop (sz n) = r := by rw [← length_coin n]; simp
  have h3 : ¬ 18446744073709551615 < n := by omega
  simp [takeV, h, h2, h3]

/-- A change. -/
structure C where
  no : Nat
  time : Nat
  gone : Bool
  addr : Nat
  len : Nat
  via : Nat
  metric : Nat
  seq : Nat

theorem C.ext' {c d : C} (h1 : c.no = d.no) (h2 : c.time = d.time) (h3 : c.gone = d.gone) (h4 : c.addr = d.addr) (h5 : c.len = d.len) (h6 : c.via = d.via) (h7 : c.metric = d.metric) (h8 : c.seq = d.seq) : c = d := by
  cases c; cases d; simp_all

/-- May a change be? -/
def C.Ok (c : C) : Prop := c.no < 18446744073709551616 ∧ c.time < 18446744073709551616 ∧ c.addr < 4294967296 ∧ c.len ≤ 32 ∧ c.via < 16 ∧ c.metric < 65535 ∧ c.seq < 65536 ∧ Pre.right c.addr c.len = true ∧ (c.gone = true → c.via = 0 ∧ c.metric = 0 ∧ c.seq = 0)
/-- May it stand behind another one? -/
def C.After (l c : C) : Prop := c.no = l.no + 1 ∧ l.time ≤ c.time

/-- The bytes of a prefix that have begun. -/
def begun (a n : Nat) : List UInt8 := (be 4 a).take ((n + 7) / 8)
theorem begun_len (a n : Nat) (h : n ≤ 32) : (begun a n).length = (n + 7) / 8 := by unfold begun; simp [length_be]; omega
theorem be4 (a : Nat) : be 4 a = [UInt8.ofNat (a / 16777216), UInt8.ofNat (a / 65536), UInt8.ofNat (a / 256), UInt8.ofNat a] := by simp [be]

/-- How many two have alike from the first one on. -/
def same : List UInt8 → List UInt8 → Nat
  | x :: xs, y :: ys => if x = y then same xs ys + 1 else 0
  | [], _ => 0
  | _ :: _, [] => 0
theorem same_le : ∀ a b : List UInt8, same a b ≤ a.length ∧ same a b ≤ b.length
  | [], _ => by simp [same]
  | _ :: _, [] => by simp [same]
  | x :: xs, y :: ys => by
    have := same_le xs ys
    unfold same; split <;> simp <;> omega
theorem same_take : ∀ a b : List UInt8, a.take (same a b) = b.take (same a b)
  | [], _ => by simp [same]
  | _ :: _, [] => by simp [same]
  | x :: xs, y :: ys => by
    unfold same; split
    · rename_i h; subst h
      simp [same_take xs ys]
    · simp
theorem same_step : ∀ (a b : List UInt8) (n : Nat), n ≤ same a b → (n < same a b ↔ n < a.length ∧ n < b.length ∧ a.getD n 0 = b.getD n 0)
  | [], _, n, _ => by simp [same]
  | _ :: _, [], n, _ => by simp [same]
  | x :: xs, y :: ys, n, h => by
    unfold same at h ⊢
    split
    · rename_i e
      rw [if_pos e] at h
      rcases n with _ | n
      · simp [e]
      · have := same_step xs ys n (by omega)
        simp only [List.length_cons, List.getD_cons_succ, Nat.add_lt_add_iff_right]
        exact this
    · rename_i e
      rw [if_neg e] at h
      obtain rfl : n = 0 := by omega
      simp [e]
theorem same_comm : ∀ a b : List UInt8, same a b = same b a
  | [], [] => rfl
  | [], _ :: _ => rfl
  | _ :: _, [] => rfl
  | x :: xs, y :: ys => by
    unfold same
    rw [same_comm xs ys]
    by_cases e : x = y
    · rw [if_pos e, if_pos e.symm]
    · rw [if_neg e, if_neg (fun h => e h.symm)]

def C.same (l c : C) : Nat := Chg.same (begun l.addr l.len) (begun c.addr c.len)
def C.head (l c : C) : Nat := 16 * c.len + 2 * l.same c + (if c.gone then 1 else 0)
/-- What stands behind the bytes of the prefix. -/
def C.tail (l c : C) : List UInt8 := if c.gone then [] else coin (fold ((c.via : Int) - l.via)) ++ (coin (fold ((c.metric : Int) - l.metric)) ++ coin ((c.seq + 65536 - l.seq) % 65536))
/-- A change that follows another one, as bytes. -/
def C.enc (l c : C) : List UInt8 := coin (c.time - l.time) ++ (coin (l.head c) ++ ((begun c.addr c.len).drop (l.same c) ++ l.tail c))

theorem same4 (l c : C) (h : c.len ≤ 32) : l.same c ≤ 4 ∧ l.same c ≤ (c.len + 7) / 8 := by
  have := (same_le (begun l.addr l.len) (begun c.addr c.len)).2
  rw [begun_len _ _ h] at this
  unfold C.same; omega
theorem head_lt (l c : C) (h : c.len ≤ 32) : l.head c < 1000 := by
  have := same4 l c h
  unfold C.head; split <;> omega
theorem tail_len (l c : C) : (l.tail c).length ≤ 27 := by
  unfold C.tail; split
  · simp
  · have h1 := (sz_le (fold ((c.via : Int) - l.via))).2
    have h2 := (sz_le (fold ((c.metric : Int) - l.metric))).2
    have h3 := (sz_le ((c.seq + 65536 - l.seq) % 65536)).2
    simp only [List.length_append, length_coin]; omega
theorem enc_len (l c : C) (h : c.len ≤ 32) : (l.enc c).length ≤ 60 := by
  have h1 := (sz_le (c.time - l.time)).2
  have h2 := (sz_le (l.head c)).2
  have h3 := tail_len l c
  have h4 := begun_len c.addr c.len h
  unfold C.enc
  simp only [List.length_append, length_coin, List.length_drop, h4]; omega

/-- The bytes of a prefix that may be: what has begun, and noughts. -/
theorem right_bytes (a n : Nat) (ha : a < 4294967296) (hn : n ≤ 32) (h : Pre.right a n = true) : begun a n ++ List.replicate (4 - (n + 7) / 8) 0 = be 4 a := by
  simp only [Pre.right, Bool.and_eq_true, decide_eq_true_eq, beq_iff_eq, Pre.rest] at h
  have hm : a % 2 ^ (32 - n) = 0 := by have := h.2; rwa [Nat.min_eq_left hn] at this
  unfold begun
  rw [be4]
  rcases (by omega : n = 0 ∨ (1 ≤ n ∧ n ≤ 8) ∨ (9 ≤ n ∧ n ≤ 16) ∨ (17 ≤ n ∧ n ≤ 24) ∨ (25 ≤ n ∧ n ≤ 32)) with h0 | h0 | h0 | h0 | h0
  · subst h0
    have : a = 0 := by simp at hm; omega
    subst this; rfl
  · have hk := Pre.mod_up a 8 n h0.2 hm
    simp only [Nat.reduceSub, Nat.reducePow] at hk
    rw [show (n + 7) / 8 = 1 by omega]
    have e2 : UInt8.ofNat (a / 65536) = 0 := by apply UInt8.toNat.inj; simp; omega
    have e3 : UInt8.ofNat (a / 256) = 0 := by apply UInt8.toNat.inj; simp; omega
    have e4 : UInt8.ofNat a = 0 := by apply UInt8.toNat.inj; simp; omega
    rw [e2, e3, e4]; rfl
  · have hk := Pre.mod_up a 16 n h0.2 hm
    simp only [Nat.reduceSub, Nat.reducePow] at hk
    rw [show (n + 7) / 8 = 2 by omega]
    have e3 : UInt8.ofNat (a / 256) = 0 := by apply UInt8.toNat.inj; simp; omega
    have e4 : UInt8.ofNat a = 0 := by apply UInt8.toNat.inj; simp; omega
    rw [e3, e4]; rfl
  · have hk := Pre.mod_up a 24 n h0.2 hm
    simp only [Nat.reduceSub, Nat.reducePow] at hk
    rw [show (n + 7) / 8 = 3 by omega]
    have e4 : UInt8.ofNat a = 0 := by apply UInt8.toNat.inj; simp; omega
    rw [e4]; rfl
  · rw [show (n + 7) / 8 = 4 by omega]; simp

/-- Unlike changes behind one have unlike bytes. -/
theorem begun_inj {a b n : Nat} (ha : a < 4294967296) (hb : b < 4294967296) (hn : n ≤ 32) (h1 : Pre.right a n = true) (h2 : Pre.right b n = true) (h : begun a n = begun b n) : a = b := by
  have e1 := right_bytes a n ha hn h1
  have e2 := right_bytes b n hb hn h2
  rw [h, e2] at e1
  have := num_be 4 a
  have := num_be 4 b
  rw [show a / 256 ^ 4 = 0 by simp; omega, ← e1] at *
  rw [show b / 256 ^ 4 = 0 by simp; omega] at *
  omega
theorem coin_split {a b : Nat} {r s : List UInt8} (ha : a < 18446744073709551616) (hb : b < 18446744073709551616) (h : coin a ++ r = coin b ++ s) : a = b ∧ r = s := by
  have h1 := take_coin a ha r
  have h2 := take_coin b hb s
  rw [h, h2] at h1
  simp only [Prod.mk.injEq] at h1
  exact ⟨h1.1.symm, h1.2.1.symm⟩
theorem enc_inj {l c d : C} (hl : l.Ok) (hc : c.Ok) (hd : d.Ok) (ac : l.After c) (ad : l.After d) (h : l.enc c = l.enc d) : c = d := by
  obtain ⟨c1, c2, c3, c4, c5, c6, c7, c8, c9⟩ := hc
  obtain ⟨d1, d2, d3, d4, d5, d6, d7, d8, d9⟩ := hd
  obtain ⟨-, l2, -, -, l5, l6, l7, -, -⟩ := hl
  unfold C.After at ac ad
  unfold C.enc at h
  have hc' := head_lt l c c4
  have hd' := head_lt l d d4
  obtain ⟨e1, h⟩ := coin_split (by omega) (by omega) h
  obtain ⟨e2, h⟩ := coin_split (by omega) (by omega) h
  have s1 := same4 l c c4
  have s2 := same4 l d d4
  unfold C.head at e2
  have eg : c.gone = d.gone := by
    cases hg : c.gone <;> cases hg' : d.gone <;> simp [hg, hg'] at e2 ⊢ <;> omega
  rw [eg] at e2
  have el : c.len = d.len := by split at e2 <;> omega
  have es : l.same c = l.same d := by split at e2 <;> omega
  have hlen : ((begun c.addr c.len).drop (l.same c)).length = ((begun d.addr d.len).drop (l.same d)).length := by
    rw [List.length_drop, List.length_drop, begun_len _ _ c4, begun_len _ _ d4, el, es]
  obtain ⟨eb, et⟩ := List.append_inj h hlen
  have ea : c.addr = d.addr := by
    refine begun_inj c3 d3 c4 c8 (by rw [el]; exact d8) ?_
    rw [← List.take_append_drop (l.same c) (begun c.addr c.len), eb]
    have t1 := same_take (begun l.addr l.len) (begun c.addr c.len)
    have t2 := same_take (begun l.addr l.len) (begun d.addr d.len)
    have t3 : (begun c.addr c.len).take (l.same c) = (begun d.addr d.len).take (l.same d) := by
      have u1 : (begun c.addr c.len).take (l.same c) = (begun l.addr l.len).take (l.same c) := t1.symm
      have u2 : (begun d.addr d.len).take (l.same d) = (begun l.addr l.len).take (l.same d) := t2.symm
      rw [u1, u2, es]
    rw [t3, List.take_append_drop, el]
  unfold C.tail at et
  rw [eg] at et
  cases hg : d.gone
  · rw [hg] at et
    simp only [Bool.false_eq_true, if_false] at et
    have f1 := fold_lt ((c.via : Int) - l.via) (by omega) (by omega)
    have f2 := fold_lt ((d.via : Int) - l.via) (by omega) (by omega)
    have f3 := fold_lt ((c.metric : Int) - l.metric) (by omega) (by omega)
    have f4 := fold_lt ((d.metric : Int) - l.metric) (by omega) (by omega)
    obtain ⟨g1, et⟩ := coin_split (by omega) (by omega) et
    obtain ⟨g2, et⟩ := coin_split (by omega) (by omega) et
    have g3 := (coin_inj _ _ (by omega) (by omega)).1 et
    have k1 := open_fold ((c.via : Int) - l.via)
    have k2 := open_fold ((c.metric : Int) - l.metric)
    rw [g1, open_fold] at k1
    rw [g2, open_fold] at k2
    exact C.ext' (by omega) (by omega) eg ea el (by omega) (by omega) (by omega)
  · have k1 := c9 (by rw [eg, hg])
    have k2 := d9 hg
    exact C.ext' (by omega) (by omega) eg ea el (by omega) (by omega) (by omega)
end Go.Proofs.Ytcgncecjbkpmkaa.Chg
