/- Frames, over lists of bytes: one, many, cut, turned. Nothing of the program. -/
import Derived.Test.YtjhkgdgbmmpegaaMath
import Derived.Test.YtjhkgdgbmmpegaaTMath
namespace Go.Proofs.Ytjhkgdgbmmpegaa.Frm
open Coin Tal

/-- A sum's bytes, the lowest first. -/
def tailb (s : Nat) : List UInt8 := [UInt8.ofNat s, UInt8.ofNat (s / 256), UInt8.ofNat (s / 65536), UInt8.ofNat (s / 16777216)]
def head (kind : UInt8) (p : List UInt8) : List UInt8 := coin p.length ++ kind :: p
/-- A frame. -/
def pack (kind : UInt8) (p : List UInt8) : List UInt8 := head kind p ++ tailb (more 0 (head kind p))
theorem length_head (kind : UInt8) (p : List UInt8) : (head kind p).length = sz p.length + 1 + p.length := by simp [head, length_coin]; omega
theorem length_tailb (s : Nat) : (tailb s).length = 4 := rfl
theorem length_pack (kind : UInt8) (p : List UInt8) : (pack kind p).length = sz p.length + 1 + p.length + 4 := by rw [pack, List.length_append, length_head, length_tailb]
theorem tailb_inj (a b : Nat) (ha : a < 4294967296) (hb : b < 4294967296) (h : tailb a = tailb b) : a = b := by
  simp only [tailb, List.cons.injEq, and_true] at h
  obtain ⟨h0, h1, h2, h3⟩ := h
  have e0 := congrArg UInt8.toNat h0
  have e1 := congrArg UInt8.toNat h1
  have e2 := congrArg UInt8.toNat h2
  have e3 := congrArg UInt8.toNat h3
  simp at e0 e1 e2 e3
  omega

/-- What stands at the beginning of some bytes: how many bytes the frame has in all, its bytes, its kind; and the error's number. -/
def wid (r : List UInt8) : Nat := (got r).2.1
def cnt (r : List UInt8) : Nat := (got r).1
def size (r : List UInt8) : Nat := wid r + 1 + cnt r + 4
def body (r : List UInt8) : List UInt8 := (r.drop (wid r + 1)).take (cnt r)
def kind (r : List UInt8) : UInt8 := r.getD (wid r) 0
def summed (r : List UInt8) : List UInt8 := r.take (wid r + 1 + cnt r)
def summ (r : List UInt8) : List UInt8 := (r.drop (wid r + 1 + cnt r)).take 4
def err (r : List UInt8) : Nat :=
  if (got r).2.2 ≠ 0 then (got r).2.2 else if 1048576 < cnt r then 6 else if r.length < size r then 5 else if tailb (more 0 (summed r)) = summ r then 0 else 4

theorem got_len (r : List UInt8) (h : (got r).2.2 = 0) : sz (cnt r) = wid r ∧ coin (cnt r) = r.take (wid r) ∧ 1 ≤ wid r ∧ wid r ≤ r.length ∧ cnt r < 18446744073709551616 := by
  unfold cnt wid
  rcases r with _ | ⟨b, r⟩
  · simp [got] at h
  · simp only [got] at h ⊢
    by_cases h1 : r.length + 1 < lead b.toNat
    · rw [if_pos h1] at h; simp at h
    · rw [if_neg h1] at h ⊢
      by_cases h2 : sz (val b r) = lead b.toNat
      · rw [if_pos h2]
        exact ⟨h2, coin_val b r (by omega) h2, (lead_le _).1, by simp; omega, val_lt b r (by omega)⟩
      · rw [if_neg h2] at h; simp at h
theorem err_ok (r : List UInt8) (h : err r = 0) : (got r).2.2 = 0 ∧ cnt r ≤ 1048576 ∧ size r ≤ r.length ∧ tailb (more 0 (summed r)) = summ r := by
  unfold err at h
  split at h
  · omega
  · split at h
    · omega
    · split at h
      · omega
      · split at h
        · refine ⟨by omega, by omega, by omega, by assumption⟩
        · omega
theorem err_le (r : List UInt8) : err r ≤ 6 := by
  have := (got_lt r).2.2.2
  unfold err
  repeat' split
  all_goals omega

/-- Some bytes that begin with a frame. -/
theorem of_pack (k : UInt8) (p r : List UInt8) (hp : p.length ≤ 1048576) : wid (pack k p ++ r) = sz p.length ∧ cnt (pack k p ++ r) = p.length ∧ (got (pack k p ++ r)).2.2 = 0 ∧ size (pack k p ++ r) = (pack k p).length := by
  have h := got_coin p.length (by omega) (k :: p ++ tailb (more 0 (head k p)) ++ r)
  have e : pack k p ++ r = coin p.length ++ (k :: p ++ tailb (more 0 (head k p)) ++ r) := by simp [pack, head]
  unfold size wid cnt
  rw [length_pack, e, h]
  exact ⟨rfl, rfl, rfl, rfl⟩
theorem err_pack (k : UInt8) (p r : List UInt8) (hp : p.length ≤ 1048576) : err (pack k p ++ r) = 0 ∧ size (pack k p ++ r) = (pack k p).length ∧ body (pack k p ++ r) = p ∧ kind (pack k p ++ r) = k := by
  obtain ⟨h1, h2, h3, h4⟩ := of_pack k p r hp
  have hs : summed (pack k p ++ r) = head k p := by
    unfold summed
    rw [h1, h2, pack, List.append_assoc, List.take_append_of_le_length (by rw [length_head]; omega), List.take_of_length_le (by rw [length_head]; omega)]
  have ht : summ (pack k p ++ r) = tailb (more 0 (head k p)) := by
    unfold summ
    rw [h1, h2, pack, List.append_assoc, ← length_head k p, List.drop_left, List.take_append_of_le_length (by simp [tailb]), List.take_of_length_le (by simp [tailb])]
  refine ⟨?_, h4, ?_, ?_⟩
  · unfold err
    rw [h3, h2, h4, hs, ht, if_neg (by omega), if_neg (by omega), if_neg (by simp), if_pos rfl]
  · unfold body
    have e : pack k p ++ r = (coin p.length ++ [k]) ++ (p ++ (tailb (more 0 (head k p)) ++ r)) := by simp [pack, head]
    have hl : (coin p.length ++ [k]).length = sz p.length + 1 := by simp [length_coin]
    rw [h1, h2, e, ← hl, List.drop_left, List.take_left]
  · unfold kind
    have e : pack k p ++ r = coin p.length ++ (k :: (p ++ (tailb (more 0 (head k p)) ++ r))) := by simp [pack, head]
    rw [h1, e, List.getD, List.getElem?_append_right (by rw [length_coin]; omega), length_coin, Nat.sub_self]
    rfl
/-- A frame that is cut. -/
theorem got_cut (n : Nat) (hn : n < 18446744073709551616) (j : Nat) (h : j < sz n) : got ((coin n).take j) = (0, 0, 5) := by
  rcases j with _ | j
  · simp [got]
  · have hs := sz_le n
    obtain ⟨hl, hlt⟩ := lead_top (sz n) _ hs.1 hs.2 (top_sz n hn)
    have hb : (UInt8.ofNat (n / 256 ^ (sz n - 1) + ones (sz n - 1))).toNat = n / 256 ^ (sz n - 1) + ones (sz n - 1) := by
      rw [UInt8.toNat_ofNat', Nat.mod_eq_of_lt hlt]
    unfold coin
    rw [List.take_succ_cons]
    simp only [got]
    rw [hb, hl, if_pos (by simp [length_be]; omega)]
theorem err_cut (k : UInt8) (p : List UInt8) (hp : p.length ≤ 1048576) (j : Nat) (h : j < (pack k p).length) : err ((pack k p).take j) = 5 := by
  rw [length_pack] at h
  by_cases hj : j < sz p.length
  · have e : (pack k p).take j = (coin p.length).take j := by
      rw [pack, head, List.append_assoc, List.take_append_of_le_length (by rw [length_coin]; omega)]
    unfold err
    rw [e, got_cut _ (by omega) _ hj]
    rfl
  · have e : (pack k p).take j = coin p.length ++ ((k :: p ++ tailb (more 0 (head k p))).take (j - sz p.length)) := by
      have e1 : pack k p = coin p.length ++ (k :: p ++ tailb (more 0 (head k p))) := by simp [pack, head]
      rw [e1, List.take_append, length_coin, List.take_of_length_le (by rw [length_coin]; omega)]
    have hg := got_coin p.length (by omega) ((k :: p ++ tailb (more 0 (head k p))).take (j - sz p.length))
    rw [← e] at hg
    have hl : ((pack k p).take j).length = j := by rw [List.length_take, length_pack]; omega
    unfold err size wid cnt
    rw [hg, hl, if_neg (by simp), if_neg (by simp; omega), if_pos (by simp; omega)]

/-- Frames, one behind the other, from a on, up to b. -/
def chain (l : List UInt8) : Nat → List Nat → Nat → Prop
  | a, [], b => a = b
  | a, x :: xs, b => x = a ∧ a < l.length ∧ err (l.drop a) = 0 ∧ chain l (a + size (l.drop a)) xs b
/-- There they end, and why. -/
def ends (l : List UInt8) (b e : Nat) : Prop := (b = l.length ∧ e = 0) ∨ (b < l.length ∧ err (l.drop b) = e ∧ e ≠ 0)
theorem chain_le (l : List UInt8) (xs : List Nat) : ∀ a b, a ≤ l.length → chain l a xs b → a ≤ b ∧ b ≤ l.length := by
  induction xs with
  | nil => intro a b h hc; have : a = b := hc; omega
  | cons x xs ih =>
    intro a b h hc
    obtain ⟨rfl, h1, h2, h3⟩ := hc
    have := (err_ok _ h2).2.2.1
    rw [List.length_drop] at this
    have := ih _ _ (by omega) h3
    omega
theorem chain_snoc (l : List UInt8) (xs : List Nat) : ∀ a b, chain l a xs b → b < l.length → err (l.drop b) = 0 → chain l a (xs ++ [b]) (b + size (l.drop b)) := by
  induction xs with
  | nil => intro a b hc h1 h2; obtain rfl : a = b := hc; exact ⟨rfl, h1, h2, rfl⟩
  | cons x xs ih =>
    intro a b hc h1 h2
    obtain ⟨rfl, h3, h4, h5⟩ := hc
    exact ⟨rfl, h3, h4, ih _ _ h5 h1 h2⟩
theorem chain_length (l : List UInt8) (xs : List Nat) : ∀ a b, a ≤ l.length → chain l a xs b → a + xs.length ≤ b := by
  induction xs with
  | nil => intro a b _ hc; have : a = b := hc; simp; omega
  | cons x xs ih =>
    intro a b h hc
    obtain ⟨rfl, h1, h2, h3⟩ := hc
    have := (err_ok _ h2).2.2.1
    rw [List.length_drop] at this
    have := ih _ _ (by omega) h3
    have : 1 ≤ size (l.drop x) := by unfold size; omega
    simp; omega
theorem chain_next (l : List UInt8) (xs : List Nat) (a b e : Nat) (ha : a < l.length) (hc : chain l a xs b) (he : ends l b e) : (err (l.drop a) ≠ 0 → xs = [] ∧ b = a ∧ e = err (l.drop a)) ∧ (err (l.drop a) = 0 → ∃ ys, xs = a :: ys ∧ chain l (a + size (l.drop a)) ys b) := by
  rcases xs with _ | ⟨x, xs⟩
  · obtain rfl : a = b := hc
    rcases he with ⟨h1, h2⟩ | ⟨h1, h2, h3⟩
    · omega
    · exact ⟨fun _ => ⟨rfl, rfl, h2.symm⟩, fun h => absurd (h2.symm.trans h) h3⟩
  · obtain ⟨rfl, h1, h2, h3⟩ := hc
    exact ⟨fun h => absurd h2 h, fun _ => ⟨xs, rfl, h3⟩⟩
theorem chain_end (l : List UInt8) (xs : List Nat) (a b e : Nat) (ha : a = l.length) (hc : chain l a xs b) (he : ends l b e) : xs = [] ∧ b = a ∧ e = 0 := by
  rcases xs with _ | ⟨x, xs⟩
  · obtain rfl : a = b := hc
    rcases he with ⟨h1, h2⟩ | ⟨h1, h2, h3⟩
    · exact ⟨rfl, rfl, h2⟩
    · omega
  · obtain ⟨rfl, h1, h2, h3⟩ := hc
    omega
theorem chain_one (l : List UInt8) (xs : List Nat) : ∀ a b e ys b' e', chain l a xs b → ends l b e → chain l a ys b' → ends l b' e' → a ≤ l.length → xs = ys ∧ b = b' ∧ e = e' := by
  induction xs with
  | nil =>
    intro a b e ys b' e' h1 h2 h3 h4 ha
    obtain rfl : a = b := h1
    by_cases hl : a = l.length
    · obtain ⟨rfl, rfl, rfl⟩ := chain_end l ys a b' e' hl h3 h4
      rcases h2 with ⟨_, rfl⟩ | ⟨h, _⟩
      · exact ⟨rfl, rfl, rfl⟩
      · omega
    · rcases h2 with ⟨h, _⟩ | ⟨h, h5, h6⟩
      · omega
      · obtain ⟨rfl, rfl, rfl⟩ := (chain_next l ys a b' e' h h3 h4).1 (by rw [h5]; exact h6)
        exact ⟨rfl, rfl, h5.symm⟩
  | cons x xs ih =>
    intro a b e ys b' e' h1 h2 h3 h4 ha
    obtain ⟨rfl, h5, h6, h7⟩ := h1
    obtain ⟨ys, rfl, h8⟩ := (chain_next l ys x b' e' h5 h3 h4).2 h6
    have := (err_ok _ h6).2.2.1
    rw [List.length_drop] at this
    obtain ⟨rfl, rfl, rfl⟩ := ih _ _ _ _ _ _ h7 h2 h8 h4 (by omega)
    exact ⟨rfl, rfl, rfl⟩

/-- A list of lists as frames, numbered from i on. -/
def packs : Nat → List (List UInt8) → List UInt8
  | _, [] => []
  | i, p :: ps => pack (UInt8.ofNat i) p ++ packs (i + 1) ps
theorem packs_snoc (ps : List (List UInt8)) (p : List UInt8) : ∀ i, packs i (ps ++ [p]) = packs i ps ++ pack (UInt8.ofNat (i + ps.length)) p := by
  induction ps with
  | nil => intro i; simp [packs]
  | cons q ps ih => intro i; simp only [List.cons_append, packs, ih, List.append_assoc, List.length_cons]; congr 4; omega
/-- Where each of them ends. -/
def stops : Nat → List (List UInt8) → List Nat
  | _, [] => []
  | a, p :: ps => (a + (sz p.length + 1 + p.length + 4)) :: stops (a + (sz p.length + 1 + p.length + 4)) ps
theorem stops_snoc (ps : List (List UInt8)) (p : List UInt8) : ∀ i a, stops a (ps ++ [p]) = stops a ps ++ [a + (packs i (ps ++ [p])).length] := by
  induction ps with
  | nil => intro i a; simp [stops, packs, length_pack]
  | cons q ps ih =>
    intro i a
    simp only [List.cons_append, stops, packs, List.length_append, length_pack]
    rw [ih (i + 1)]
    simp only [List.cons.injEq, true_and]
    congr 2; omega
/-- How many of them end up to k. -/
def upto (k : Nat) : List Nat → Nat
  | [] => 0
  | x :: xs => if x ≤ k then upto k xs + 1 else 0
/-- Where the last of these ends. -/
def last (k : Nat) : Nat → List Nat → Nat
  | a, [] => a
  | a, x :: xs => if x ≤ k then last k x xs else a
theorem cut_chain (ps : List (List UInt8)) (hps : ∀ p ∈ ps, p.length ≤ 1048576) : ∀ (i : Nat) (A : List UInt8) (k : Nat), A.length ≤ k → k ≤ A.length + (packs i ps).length →
    ∃ xs, chain ((A ++ packs i ps).take k) A.length xs (last k A.length (stops A.length ps)) ∧ xs.length = upto k (stops A.length ps) ∧ ends ((A ++ packs i ps).take k) (last k A.length (stops A.length ps)) (if last k A.length (stops A.length ps) = k then 0 else 5) := by
  induction ps with
  | nil =>
    intro i A k h1 h2
    simp only [packs, List.length_nil, Nat.add_zero] at h2
    obtain rfl : k = A.length := by omega
    refine ⟨[], rfl, rfl, .inl ⟨?_, by simp [last, stops]⟩⟩
    simp [packs, last, stops]
  | cons p ps ih =>
    intro i A k h1 h2
    have hp := hps p (by simp)
    have hlp := length_pack (UInt8.ofNat i) p
    have hP : packs i (p :: ps) = pack (UInt8.ofNat i) p ++ packs (i + 1) ps := rfl
    rw [hP] at h2 ⊢
    rw [List.length_append, hlp] at h2
    have hd : ((A ++ (pack (UInt8.ofNat i) p ++ packs (i + 1) ps)).take k).drop A.length = (pack (UInt8.ofNat i) p ++ packs (i + 1) ps).take (k - A.length) := by
      rw [List.drop_take, List.drop_left]
    have hlen : ((A ++ (pack (UInt8.ofNat i) p ++ packs (i + 1) ps)).take k).length = k := by
      simp only [List.length_take, List.length_append, hlp]; omega
    by_cases hk : A.length + (sz p.length + 1 + p.length + 4) ≤ k
    · have hA : (A ++ pack (UInt8.ofNat i) p).length = A.length + (sz p.length + 1 + p.length + 4) := by rw [List.length_append, hlp]
      obtain ⟨xs, c1, c2, c3⟩ := ih (fun q hq => hps q (by simp [hq])) (i + 1) (A ++ pack (UInt8.ofNat i) p) k (by omega) (by omega)
      rw [hA, List.append_assoc] at c1 c3
      rw [hA] at c2
      have hs : stops A.length (p :: ps) = (A.length + (sz p.length + 1 + p.length + 4)) :: stops (A.length + (sz p.length + 1 + p.length + 4)) ps := rfl
      have hlast : last k A.length (stops A.length (p :: ps)) = last k (A.length + (sz p.length + 1 + p.length + 4)) (stops (A.length + (sz p.length + 1 + p.length + 4)) ps) := by
        rw [hs, last, if_pos hk]
      have hup : upto k (stops A.length (p :: ps)) = upto k (stops (A.length + (sz p.length + 1 + p.length + 4)) ps) + 1 := by
        rw [hs, upto, if_pos hk]
      rw [hlast, hup]
      have hd2 : (pack (UInt8.ofNat i) p ++ packs (i + 1) ps).take (k - A.length) = pack (UInt8.ofNat i) p ++ (packs (i + 1) ps).take (k - A.length - (pack (UInt8.ofNat i) p).length) := by
        rw [List.take_append, List.take_of_length_le (by rw [hlp]; omega)]
      have he := err_pack (UInt8.ofNat i) p ((packs (i + 1) ps).take (k - A.length - (pack (UInt8.ofNat i) p).length)) hp
      rw [← hd2, ← hd, hlp] at he
      refine ⟨A.length :: xs, ⟨rfl, by rw [hlen]; omega, he.1, ?_⟩, by simp [c2], c3⟩
      rw [he.2.1]
      exact c1
    · have hs : stops A.length (p :: ps) = (A.length + (sz p.length + 1 + p.length + 4)) :: stops (A.length + (sz p.length + 1 + p.length + 4)) ps := rfl
      rw [hs, last, upto, if_neg hk, if_neg hk]
      refine ⟨[], rfl, rfl, ?_⟩
      by_cases h0 : A.length = k
      · rw [if_pos h0]
        exact .inl ⟨by rw [hlen]; exact h0, rfl⟩
      · rw [if_neg h0]
        refine .inr ⟨by rw [hlen]; omega, ?_, by decide⟩
        rw [hd, List.take_append_of_le_length (by rw [hlp]; omega)]
        exact err_cut _ _ hp _ (by rw [hlp]; omega)

/-- One byte is another one. -/
theorem bit_xor (b t s : Nat) : (b ^^^ t) / 2 ^ s % 2 = (b / 2 ^ s % 2 + t / 2 ^ s % 2) % 2 := by
  rw [Nat.xor_div_two_pow, xor_mod2]
theorem more_turn (g : List UInt8) (k : Nat) (hk : k < g.length) (t : Nat) (ht : t < 256) (h0 : t ≠ 0) : more 0 (g.set k (UInt8.ofNat ((g[k]).toNat ^^^ t))) ≠ more 0 g := by
  intro h
  have hlt : (g[k]).toNat ^^^ t < 256 := Nat.xor_lt_two_pow (n := 8) (UInt8.toNat_lt _) ht
  have := (more_burst g (g.set k (UInt8.ofNat ((g[k]).toNat ^^^ t))) (by simp) (8 * k) 8 t (by omega) (by omega) fun i hi => by
    unfold bitAt
    by_cases h : i / 8 = k
    · subst h
      have e1 : (g.set (i / 8) (UInt8.ofNat ((g[i / 8]).toNat ^^^ t))).getD (i / 8) 0 = UInt8.ofNat ((g[i / 8]).toNat ^^^ t) := by simp [List.getD, hk]
      have e2 : g.getD (i / 8) 0 = g[i / 8] := by simp [List.getD, hk]
      rw [e1, e2, UInt8.toNat_ofNat', Nat.mod_eq_of_lt hlt, bit_xor, if_pos (by omega)]
      rw [show i - 8 * (i / 8) = i % 8 by omega]
    · have e1 : (g.set k (UInt8.ofNat ((g[k]).toNat ^^^ t))).getD (i / 8) 0 = g.getD (i / 8) 0 := by
        simp only [List.getD]
        rw [List.getElem?_set_ne (by omega)]
      rw [e1, if_neg (by omega)]
      omega).1 h
  omega
theorem sz_add (a b : Nat) (h : a + sz a = b + sz b) : a = b := by
  rcases Nat.lt_trichotomy (sz a) (sz b) with h1 | h1 | h1
  · have := sz_mono a b h1; omega
  · omega
  · have := sz_mono b a h1; omega
theorem turn_ne (b : UInt8) (t : Nat) (ht : t < 256) (h0 : t ≠ 0) : UInt8.ofNat (b.toNat ^^^ t) ≠ b := by
  intro h
  have hlt : b.toNat ^^^ t < 256 := Nat.xor_lt_two_pow (n := 8) (UInt8.toNat_lt _) ht
  have e := congrArg UInt8.toNat h
  rw [UInt8.toNat_ofNat', Nat.mod_eq_of_lt hlt] at e
  have : b.toNat ^^^ (b.toNat ^^^ t) = b.toNat ^^^ b.toNat := by rw [e]
  rw [← Nat.xor_assoc, Nat.xor_self, Nat.zero_xor] at this
  exact h0 this
/-- A frame of which a byte of the number is another one. -/
theorem turn_head (kd : UInt8) (p : List UInt8) (k : Nat) (b : UInt8) (hk : k < sz p.length) (hk' : k < (pack kd p).length) (hb : b ≠ (pack kd p)[k]) (he : err ((pack kd p).set k b) = 0) : size ((pack kd p).set k b) < (pack kd p).length := by
  obtain ⟨h1, h2, h3, h4⟩ := err_ok _ he
  obtain ⟨g1, g2, g3, g4, g5⟩ := got_len _ h1
  rw [List.length_set] at h3 g4
  rcases Nat.lt_or_ge (size ((pack kd p).set k b)) (pack kd p).length with h | h
  · exact h
  · exfalso
    have hsz : size ((pack kd p).set k b) = (pack kd p).length := by omega
    unfold size at hsz
    rw [length_pack, ← g1] at hsz
    have hn := sz_add _ _ (show cnt ((pack kd p).set k b) + sz (cnt ((pack kd p).set k b)) = p.length + sz p.length by omega)
    rw [← g1, hn] at g2
    have h5 : (pack kd p).take (sz p.length) = coin p.length := by
      rw [pack, head, List.append_assoc, List.take_append_of_le_length (by rw [length_coin]; omega), List.take_of_length_le (by rw [length_coin]; omega)]
    have h6 : ((pack kd p).set k b)[k]? = (pack kd p)[k]? := by
      have e1 : (((pack kd p).set k b).take (sz p.length))[k]? = ((pack kd p).take (sz p.length))[k]? := by rw [← g2, h5]
      rw [List.getElem?_take_of_lt hk, List.getElem?_take_of_lt hk] at e1
      exact e1
    rw [List.getElem?_set_self hk', List.getElem?_eq_getElem hk'] at h6
    injection h6 with h6
    exact hb h6
/-- A frame of which another byte is another one. -/
theorem turn_rest (kd : UInt8) (p : List UInt8) (hp : p.length ≤ 1048576) (k : Nat) (t : Nat) (ht : t < 256) (h0 : t ≠ 0) (hk : sz p.length ≤ k) (hk' : k < (pack kd p).length) : err ((pack kd p).set k (UInt8.ofNat (((pack kd p)[k]).toNat ^^^ t))) = 4 := by
  have hlp := length_pack kd p
  generalize hQ : (pack kd p).set k (UInt8.ofNat (((pack kd p)[k]).toNat ^^^ t)) = Q
  have hQl : Q.length = (pack kd p).length := by rw [← hQ, List.length_set]
  have h5 : (pack kd p).take (sz p.length) = coin p.length := by
    rw [pack, head, List.append_assoc, List.take_append_of_le_length (by rw [length_coin]; omega), List.take_of_length_le (by rw [length_coin]; omega)]
  have hQt : Q.take (sz p.length) = coin p.length := by
    rw [← hQ, List.take_set_of_le hk, h5]
  have hg := got_coin p.length (by omega) (Q.drop (sz p.length))
  rw [← hQt, List.take_append_drop] at hg
  have hsum : tailb (more 0 (summed Q)) ≠ summ Q := by
    unfold summed summ wid cnt
    simp only [hg]
    rw [← length_head kd p]
    by_cases h1 : k < (head kd p).length
    · have eg : (pack kd p)[k] = (head kd p)[k]'h1 := List.getElem_append_left h1
      have e1 : Q.take (head kd p).length = (head kd p).set k (UInt8.ofNat (((head kd p)[k]).toNat ^^^ t)) := by
        rw [← hQ, eg]
        unfold pack
        rw [List.set_append_left _ _ h1, List.take_append_of_le_length (by simp), List.take_of_length_le (by simp)]
      have e2 : (Q.drop (head kd p).length).take 4 = tailb (more 0 (head kd p)) := by
        rw [← hQ]
        unfold pack
        rw [List.set_append_left _ _ h1, List.drop_append_of_le_length (by simp), List.drop_of_length_le (by simp), List.nil_append, List.take_of_length_le (by simp [tailb])]
      rw [e1, e2]
      intro h
      exact more_turn _ k h1 t ht h0 (tailb_inj _ _ (more_lt _ _) (more_lt _ _) h)
    · have e1 : Q.take (head kd p).length = head kd p := by
        rw [← hQ]
        unfold pack
        rw [List.set_append_right _ _ (by omega), List.take_append_of_le_length (by simp), List.take_of_length_le (by simp)]
      have hk2 : k - (head kd p).length < (tailb (more 0 (head kd p))).length := by rw [length_tailb, length_head]; omega
      have eg : (pack kd p)[k] = (tailb (more 0 (head kd p)))[k - (head kd p).length]'hk2 := List.getElem_append_right (by omega)
      have e2 : (Q.drop (head kd p).length).take 4 = (tailb (more 0 (head kd p))).set (k - (head kd p).length) (UInt8.ofNat (((tailb (more 0 (head kd p)))[k - (head kd p).length]).toNat ^^^ t)) := by
        rw [← hQ, eg]
        unfold pack
        rw [List.set_append_right _ _ (by omega), List.drop_left, List.take_of_length_le (by simp [tailb])]
      rw [e1, e2]
      generalize tailb (more 0 (head kd p)) = T at *
      intro h
      have h6 : T[k - (head kd p).length]? = (T.set (k - (head kd p).length) (UInt8.ofNat ((T[k - (head kd p).length]).toNat ^^^ t)))[k - (head kd p).length]? := by rw [← h]
      rw [List.getElem?_set_self hk2, List.getElem?_eq_getElem hk2] at h6
      injection h6 with h6
      exact turn_ne _ t ht h0 h6.symm
  unfold err
  rw [if_neg hsum, if_neg (by simp [hg]), if_neg (by simp [cnt, hg]; omega), if_neg (by simp [size, wid, cnt, hg]; omega)]
end Go.Proofs.Ytjhkgdgbmmpegaa.Frm
