/- Packets and back, as functions of bytes. -/
import Derived.Test.YtecfblkagbdjlaaMl
namespace Go.Proofs.Ytecfblkagbdjlaa.Msg
open Go.ChangeShapes Go.WideShapes Go.ChangeAt Go.RowKit
open Coin Tal
set_option maxRecDepth 8000

/-- One byte is another one. -/
theorem bit_xor (b t s : Nat) : (b ^^^ t) / 2 ^ s % 2 = (b / 2 ^ s % 2 + t / 2 ^ s % 2) % 2 := by
  rw [Nat.xor_div_two_pow, xor_mod2]
theorem more_turn (g : List UInt8) (k : Nat) (hk : k < g.length) (t : Nat) (ht : t < 256) (h0 : t ≠ 0) : more 0 (g.set k (UInt8.ofNat ((g[k]).toNat ^^^ t))) ≠ more 0 g := by
  intro h
  have hlt : (g[k]).toNat ^^^ t < 256 := Nat.xor_lt_two_pow (n := 8) (UInt8.toNat_lt _) ht
  have := (more_burst g (g.set k (UInt8.ofNat ((g[k]).toNat ^^^ t))) (by simp) (8 * k) 8 t (by omega) (by omega) fun i hi => by
    unfold bitAt
    by_cases h : i / 8 = k
    · subst h
      have e1 : (g.set (i / 8) (UInt8.ofNat ((g[i / 8]).toNat ^^^ t))).getD (i / 8) 0 = UInt8.ofNat ((g[i / 8]).toNat ^^^ t) := by simp [List.getD, hk]
      have e2 : g.getD (i / 8) 0 = g[i / 8] := by simp [List.getD, hk]
      rw [e1, e2, UInt8.toNat_ofNat', Nat.mod_eq_of_lt hlt, bit_xor, if_pos (by omega)]
      rw [show i - 8 * (i / 8) = i % 8 by omega]
    · have e1 : (g.set k (UInt8.ofNat ((g[k]).toNat ^^^ t))).getD (i / 8) 0 = g.getD (i / 8) 0 := by
        simp only [List.getD]
        rw [List.getElem?_set_ne (by omega)]
      rw [e1, if_neg (by omega)]
      omega).1 h
  omega
theorem turn_ne (b : UInt8) (t : Nat) (ht : t < 256) (h0 : t ≠ 0) : UInt8.ofNat (b.toNat ^^^ t) ≠ b := by
  intro h
  have hlt : b.toNat ^^^ t < 256 := Nat.xor_lt_two_pow (n := 8) (UInt8.toNat_lt _) ht
  have e := congrArg UInt8.toNat h
  rw [UInt8.toNat_ofNat', Nat.mod_eq_of_lt hlt] at e
  have : b.toNat ^^^ (b.toNat ^^^ t) = b.toNat ^^^ b.toNat := by rw [e]
  rw [← Nat.xor_assoc, Nat.xor_self, Nat.zero_xor] at this
  exact h0 this
theorem tk_stuck (l : List UInt8) (f most : Nat) (h : f ≠ 0) : takeV l f most = (0, l, f) := by unfold takeV; rw [if_pos h]
theorem take_le (n : Nat) (hn : n < 18446744073709551616) (r : List UInt8) (most : Nat) (hm : n ≤ most) : takeV (coin n ++ r) 0 most = (n, r, 0) := by
  have h := got_coin n hn r
  have h2 : (coin n ++ r).drop (sz n) = r := by rw [← length_coin n]; simp
  have h3 : ¬ most < n := by omega
  simp [takeV, h, h2, h3]
theorem coins_cons (n : Nat) (ns : List Nat) : coins (n :: ns) = coin n ++ coins ns := by unfold coins; rw [List.flatMap_cons]
theorem got_sound : ∀ l : List UInt8, (got l).2.2 = 0 → l = coin (got l).1 ++ l.drop (got l).2.1
  | [], h => by simp [got] at h
  | b :: r, h => by
    have e : got (b :: r) = if r.length + 1 < lead b.toNat then (0, 0, 5) else if sz (val b r) = lead b.toNat then (val b r, lead b.toNat, 0) else (0, 0, 4) := rfl
    rw [e] at h ⊢
    split
    · rename_i h1; rw [if_pos h1] at h; simp at h
    · rename_i h1; rw [if_neg h1] at h
      split
      · rename_i h2
        show b :: r = coin (val b r) ++ (b :: r).drop (lead b.toNat)
        rw [coin_val b r (by omega) h2, List.take_append_drop]
      · rename_i h2; rw [if_neg h2] at h; simp at h
theorem tk_sound {l l' : List UInt8} {f n most : Nat} (e : takeV l f most = (n, l', 0)) : f = 0 ∧ l = coin n ++ l' := by
  by_cases hf : f = 0
  · subst hf
    refine ⟨rfl, ?_⟩
    unfold takeV at e
    rw [if_neg (by decide)] at e
    split at e
    · rename_i h1
      injection e with _ e; injection e with _ e
      exact absurd e h1
    · rename_i h1
      split at e
      · injection e with _ e; injection e with _ e; cases e
      · injection e with e1 e; injection e with e2 e3
        have := got_sound l (by omega)
        rw [e1, e2] at this
        exact this
  · rw [tk_stuck l f most hf] at e
    injection e with _ e; injection e with _ e
    exact absurd e hf
/-- A part that is right tells all it has. -/
theorem tp_body (x : Pt) (hx : x.Fits) (hr : x.rt = true) : tp x.K x.body = (x, [], 0) := by
  obtain ⟨d, hd, hd2⟩ := rt_nd hr
  have hk := rt_k hr
  obtain ⟨k, n, nd, a, l, s, m⟩ := x
  have h1 := hx.n
  have h2 := hx.a
  have h3 := hx.l
  have h4 := hx.s
  have h5 := hx.m
  simp only at h1 h2 h3 h4 h5 hd hk
  subst hd
  have hnil : coins [] = [] := rfl
  unfold Pt.rt at hr
  simp only at hr
  rcases hk with rfl | rfl | rfl | rfl
  · simp at hr
    obtain ⟨r1, r2, r3, r4, r5, r6⟩ := hr
    have e : Pt.body ⟨1, n, (d : Int), a, l, s, m⟩ = coin n ++ [] := by unfold Pt.body Pt.nums; simp only [coins_cons, hnil, if_true]
    rw [e]
    have q1 := take_le n h1 [] 4294967295 r6
    simp only [tp, q1, if_true]
    rw [r1, r2, r3, r4, r5]
    rfl
  · simp at hr
    obtain ⟨r1, r2, r3, r4, r5⟩ := hr
    have e : Pt.body ⟨2, n, (d : Int), a, l, s, m⟩ = coin d ++ (coin m ++ []) := by
      have : Pt.body ⟨2, n, (d : Int), a, l, s, m⟩ = coins [d, m] := rfl
      rw [this]; simp only [coins_cons, hnil]
    rw [e]
    have q1 := take_le d (by omega) (coin m ++ []) 15 (by omega)
    have q2 := take_le m (by omega) [] 65535 (by omega)
    have e2 : tp 2 (coin d ++ (coin m ++ [])) = (⟨2, 0, (d : Int), 0, 0, 0, m⟩, [], 0) := by
      show (let a := takeV (coin d ++ (coin m ++ [])) 0 15; let b := takeV a.2.1 a.2.2 65535; ((⟨2, 0, a.1, 0, 0, 0, b.1⟩ : Pt), b.2.1, b.2.2)) = _
      simp only [q1, q2]
    rw [e2, r1, r2, r3, r4]
  · simp at hr
    obtain ⟨r1, r2, r3⟩ := hr
    have hl : l ≤ 32 := by unfold Pre.right at r3; simp at r3; omega
    have e : Pt.body ⟨3, n, (d : Int), a, l, s, m⟩ = coin d ++ (coin a ++ (coin l ++ (coin s ++ (coin m ++ [])))) := by
      have : Pt.body ⟨3, n, (d : Int), a, l, s, m⟩ = coins [d, a, l, s, m] := rfl
      rw [this]; simp only [coins_cons, hnil]
    rw [e]
    have q1 := take_le d (by omega) (coin a ++ (coin l ++ (coin s ++ (coin m ++ [])))) 15 (by omega)
    have q2 := take_le a (by omega) (coin l ++ (coin s ++ (coin m ++ []))) 4294967295 (by omega)
    have q3 := take_le l (by omega) (coin s ++ (coin m ++ [])) 32 (by omega)
    have q4 := take_le s (by omega) (coin m ++ []) 65535 (by omega)
    have q5 := take_le m (by omega) [] 65535 (by omega)
    have e2 : tp 3 (coin d ++ (coin a ++ (coin l ++ (coin s ++ (coin m ++ []))))) = (⟨3, 0, (d : Int), a, l, s, m⟩, [], 0) := by
      show (let x := takeV (coin d ++ (coin a ++ (coin l ++ (coin s ++ (coin m ++ []))))) 0 15; let y := takeV x.2.1 x.2.2 4294967295; let z := takeV y.2.1 y.2.2 32; let t := takeV z.2.1 z.2.2 65535; let u := takeV t.2.1 t.2.2 65535; ((⟨3, 0, x.1, y.1, z.1, t.1, u.1⟩ : Pt), u.2.1, u.2.2)) = _
      simp only [q1, q2, q3, q4, q5]
    rw [e2, r1]
  · simp at hr
    obtain ⟨r1, r2, r3, r4⟩ := hr
    have hl : l ≤ 32 := by unfold Pre.right at r3; simp at r3; omega
    have e : Pt.body ⟨4, n, (d : Int), a, l, s, m⟩ = coin a ++ (coin l ++ (coin s ++ (coin n ++ []))) := by
      have : Pt.body ⟨4, n, (d : Int), a, l, s, m⟩ = coins [a, l, s, n] := rfl
      rw [this]; simp only [coins_cons, hnil]
    rw [e]
    have q2 := take_le a (by omega) (coin l ++ (coin s ++ (coin n ++ []))) 4294967295 (by omega)
    have q3 := take_le l (by omega) (coin s ++ (coin n ++ [])) 32 (by omega)
    have q4 := take_le s (by omega) (coin n ++ []) 65535 (by omega)
    have q5 := take_le n (by omega) [] 64 (by omega)
    have e2 : tp 4 (coin a ++ (coin l ++ (coin s ++ (coin n ++ [])))) = (⟨4, n, 0, a, l, s, 0⟩, [], 0) := by
      show (let y := takeV (coin a ++ (coin l ++ (coin s ++ (coin n ++ [])))) 0 4294967295; let z := takeV y.2.1 y.2.2 32; let t := takeV z.2.1 z.2.2 65535; let u := takeV t.2.1 t.2.2 64; ((⟨4, u.1, 0, y.1, z.1, t.1, 0⟩ : Pt), u.2.1, u.2.2)) = _
      simp only [q2, q3, q4, q5]
    have r1' : (d : Int) = 0 := by omega
    rw [e2, r1', r2]
theorem po_body (x : Pt) (hx : x.Fits) (hr : x.rt = true) : po x.K x.body = (x, 0) := by
  unfold po poR
  rw [tp_body x hx hr]
  simp [endV, hr]
theorem rt_known {x : Pt} (h : x.rt = true) : isKnown x.K = true := by
  unfold isKnown
  rcases rt_k h with h | h | h | h <;> rw [h] <;> rfl
theorem t1_part (x : Pt) (hx : x.Fits) (y : List UInt8) : t1 (UInt8.ofNat x.K) (coin x.body.length ++ x.body ++ y) = (x.K, x.body, y, 0) := by
  have hb := x.body_len
  have q := take_le x.body.length (by omega) (x.body ++ y) (coin x.body.length ++ x.body ++ y).length (by simp only [List.length_append]; omega)
  rw [← List.append_assoc] at q
  have e : bytesV (x.body ++ y) 0 (x.body.length : Nat) = (x.body, y, 0) := by
    unfold bytesV
    rw [if_neg (by omega), if_neg (by simp; omega)]
    simp
  have hk := hx.k
  simp only [t1, q, e, if_true]
  simp; omega
theorem dp_flat (l : List Pt) (hx : ∀ x ∈ l, x.Fits) (hr : ∀ x ∈ l, x.rt = true) : dp (l.flatMap Pt.bytes) = some (l, 0) := by
  induction l with
  | nil => rfl
  | cons x l ih =>
    have h1 := hx x (List.mem_cons_self ..)
    have h2 := hr x (List.mem_cons_self ..)
    have e : (x :: l).flatMap Pt.bytes = UInt8.ofNat x.K :: (coin x.body.length ++ x.body ++ l.flatMap Pt.bytes) := by
      rw [List.flatMap_cons]; rfl
    rw [e, dp_cons, t1_part x h1, po_body x h1 h2, ih (fun y hy => hx y (List.mem_cons_of_mem _ hy)) (fun y hy => hr y (List.mem_cons_of_mem _ hy))]
    simp [rt_known h2]
theorem seal_len (p : List UInt8) : (sealB p).length = p.length + 4 := by unfold sealB; rw [List.length_append, length_tailb]
theorem seal_take (p : List UInt8) : (sealB p).take ((sealB p).length - 4) = p := by rw [seal_len]; unfold sealB; simp
theorem seal_drop (p : List UInt8) : (sealB p).drop ((sealB p).length - 4) = tailb (more 0 p) := by rw [seal_len]; unfold sealB; simp
/-- What is read of bytes that end with their sum. -/
theorem dec_sealed (b : UInt8) (p : List UInt8) (hp : 0 < p.length) : dec (sealB (b :: p)) = if b ≠ 1 then (4, 0, [], 0) else decR (takeV p 0 15).1 (if (takeV p 0 15).2.2 ≠ 0 then none else dp (takeV p 0 15).2.1) := by
  unfold dec decR
  rw [if_neg (by rw [seal_len, List.length_cons]; omega), seal_take, seal_drop, if_neg (by simp)]
  rfl
theorem dec_parts (f : Nat) (hf : f < 16) (l : List Pt) (hx : ∀ x ∈ l, x.Fits) (hr : ∀ x ∈ l, x.rt = true) : dec (sealB ((1 :: coin f) ++ l.flatMap Pt.bytes)) = if 300 < l.length then (6, 0, [], 0) else (0, f, l, 0) := by
  have hs := sz_le f
  rw [List.cons_append, dec_sealed 1 (coin f ++ l.flatMap Pt.bytes) (by rw [List.length_append, length_coin]; omega)]
  rw [take_le f (by omega) _ 15 (by omega), dp_flat l hx hr]
  simp [decR]
theorem kept_all (l : List Pt) (hr : ∀ x ∈ l, x.rt = true) (hl : l.length ≤ 300) : kept l = l := by
  unfold kept
  rw [List.filter_eq_self.2 hr, List.take_of_length_le hl]
theorem kept_mem {l : List Pt} {x : Pt} (h : x ∈ kept l) : x ∈ l ∧ x.rt = true := by
  unfold kept at h
  have := List.mem_of_mem_take h
  rw [List.mem_filter] at this
  exact this
theorem dec_enc (f : Nat) (hf : f < 16) (l : List Pt) (hx : ∀ x ∈ l, x.Fits) : dec (enc f l) = (0, f, kept l, 0) := by
  have h := kept_len l
  have e := dec_parts f hf (kept l) (fun x hm => hx x (kept_mem hm).1) (fun x hm => (kept_mem hm).2)
  rw [if_neg (by omega)] at e
  exact e
/-- What is read as a packet is just its bytes. -/
theorem tp_sound {k : Nat} {own : List UInt8} (hk : isKnown k = true) (h1 : (tp k own).2.2 = 0) (h2 : (tp k own).2.1 = []) : own = (tp k own).1.body ∧ (tp k own).1.K = k := by
  have hnil : coins [] = [] := rfl
  rcases known_k hk with rfl | rfl | rfl | rfl
  · obtain ⟨n, l1, f1, e1, b1, k1, g1⟩ := tk_next own 0 4294967295 (by decide)
    have e : tp 1 own = (⟨1, n, 0, 0, 0, 0, 0⟩, l1, f1) := by simp only [tp, e1, if_true]
    rw [e] at h1 h2 ⊢
    simp only at h1 h2
    subst h1 h2
    obtain ⟨_, s1⟩ := tk_sound e1
    refine ⟨?_, rfl⟩
    have : Pt.body ⟨1, n, 0, 0, 0, 0, 0⟩ = coins [n] := rfl
    rw [this]; simp only [coins_cons, hnil]; exact s1
  · obtain ⟨a, l1, f1, e1, b1, k1, g1⟩ := tk_next own 0 15 (by decide)
    obtain ⟨b, l2, f2, e2, b2, k2, g2⟩ := tk_next l1 f1 65535 k1
    have e : tp 2 own = (⟨2, 0, a, 0, 0, 0, b⟩, l2, f2) := by simp only [tp, e1, e2]; rfl
    rw [e] at h1 h2 ⊢
    simp only at h1 h2
    subst h1 h2
    obtain ⟨q1, s2⟩ := tk_sound e2
    subst q1
    obtain ⟨_, s1⟩ := tk_sound e1
    refine ⟨?_, rfl⟩
    have : Pt.body ⟨2, 0, (a : Int), 0, 0, 0, b⟩ = coins [a, b] := rfl
    rw [this, s1, s2]; simp only [coins_cons, hnil]
  · obtain ⟨a, l1, f1, e1, b1, k1, g1⟩ := tk_next own 0 15 (by decide)
    obtain ⟨d, l2, f2, e2, b2, k2, g2⟩ := tk_next l1 f1 4294967295 k1
    obtain ⟨n, l3, f3, e3, b3, k3, g3⟩ := tk_next l2 f2 32 k2
    obtain ⟨s, l4, f4, e4, b4, k4, g4⟩ := tk_next l3 f3 65535 k3
    obtain ⟨m', l5, f5, e5, b5, k5, g5⟩ := tk_next l4 f4 65535 k4
    have e : tp 3 own = (⟨3, 0, a, d, n, s, m'⟩, l5, f5) := by simp only [tp, e1, e2, e3, e4, e5]; rfl
    rw [e] at h1 h2 ⊢
    simp only at h1 h2
    subst h1 h2
    obtain ⟨q4, s5⟩ := tk_sound e5
    subst q4
    obtain ⟨q3, s4⟩ := tk_sound e4
    subst q3
    obtain ⟨q2, s3⟩ := tk_sound e3
    subst q2
    obtain ⟨q1, s2⟩ := tk_sound e2
    subst q1
    obtain ⟨_, s1⟩ := tk_sound e1
    refine ⟨?_, rfl⟩
    have : Pt.body ⟨3, 0, (a : Int), d, n, s, m'⟩ = coins [a, d, n, s, m'] := rfl
    rw [this, s1, s2, s3, s4, s5]; simp only [coins_cons, hnil]
  · obtain ⟨d, l2, f2, e2, b2, k2, g2⟩ := tk_next own 0 4294967295 (by decide)
    obtain ⟨n, l3, f3, e3, b3, k3, g3⟩ := tk_next l2 f2 32 k2
    obtain ⟨s, l4, f4, e4, b4, k4, g4⟩ := tk_next l3 f3 65535 k3
    obtain ⟨m', l5, f5, e5, b5, k5, g5⟩ := tk_next l4 f4 64 k4
    have e : tp 4 own = (⟨4, m', 0, d, n, s, 0⟩, l5, f5) := by simp only [tp, e2, e3, e4, e5]; rfl
    rw [e] at h1 h2 ⊢
    simp only at h1 h2
    subst h1 h2
    obtain ⟨q4, s5⟩ := tk_sound e5
    subst q4
    obtain ⟨q3, s4⟩ := tk_sound e4
    subst q3
    obtain ⟨q2, s3⟩ := tk_sound e3
    subst q2
    obtain ⟨_, s2⟩ := tk_sound e2
    refine ⟨?_, rfl⟩
    have : Pt.body ⟨4, m', 0, d, n, s, 0⟩ = coins [d, n, s, m'] := rfl
    rw [this, s2, s3, s4, s5]; simp only [coins_cons, hnil]
theorem po_sound {k : Nat} {own : List UInt8} (hk : isKnown k = true) (h : (po k own).2 = 0) : own = (po k own).1.body ∧ (po k own).1.K = k ∧ (po k own).1.rt = true := by
  unfold po poR at h ⊢
  split at h
  · rename_i h0; exact absurd h h0
  · rename_i h0
    rw [if_neg h0]
    split at h
    · rename_i hr
      rw [if_pos hr]
      have he : (tp k own).2.2 = 0 ∧ (tp k own).2.1 = [] := by
        have he : endV (tp k own).2.1 (tp k own).2.2 = 0 := by omega
        unfold endV at he
        split at he
        · cases he
        · rename_i h2
          refine ⟨he, ?_⟩
          rcases hl : (tp k own).2.1 with _ | ⟨x, y⟩
          · rfl
          · exact absurd ⟨he, by rw [hl]; simp⟩ h2
      obtain ⟨a, b⟩ := tp_sound hk he.1 he.2
      exact ⟨a, b, hr⟩
    · cases h
theorem t1_sound {b : UInt8} {r own l' : List UInt8} {k : Nat} (h : t1 b r = (k, own, l', 0)) : k = b.toNat ∧ r = coin own.length ++ own ++ l' := by
  obtain ⟨n, l1, f1, e1, b1, k1, g1⟩ := tk_next r 0 r.length (by decide)
  simp only [t1, e1] at h
  split at h
  · rename_i h0
    injection h with q1 q; injection q with q2 q; injection q with q3 _
    have hf : f1 = 0 := by
      unfold bytesV at h0
      split at h0
      · exact h0
      · split at h0
        · cases h0
        · rename_i h2 _
          by_cases hf : f1 = 0
          · exact hf
          · exact absurd (Or.inr hf) h2
    subst hf
    obtain ⟨_, s1⟩ := tk_sound e1
    have hl : ¬ ((l1.length : Int) < (n : Int)) := fun hl => by
      unfold bytesV at h0
      rw [if_neg (by omega), if_pos hl] at h0
      cases h0
    have hb : bytesV l1 0 (n : Int) = (l1.take n, l1.drop n, 0) := by
      unfold bytesV
      rw [if_neg (by omega), if_neg hl]; simp
    rw [hb] at q2 q3
    simp only at q2 q3
    refine ⟨q1.symm, ?_⟩
    have hn : own.length = n := by rw [← q2, List.length_take]; omega
    rw [hn, ← q2, ← q3, List.append_assoc, List.take_append_drop]
    exact s1
  · rename_i h0
    injection h with _ q; injection q with _ q; injection q with _ q
    exact absurd q h0
theorem dp_sound (n : Nat) : ∀ (l : List UInt8) (xs : List Pt), l.length ≤ n → dp l = some (xs, 0) → l = xs.flatMap Pt.bytes ∧ (∀ x ∈ xs, x.Fits) ∧ (∀ x ∈ xs, x.rt = true) := by
  induction n with
  | zero =>
    intro l xs hl h
    obtain rfl : l = [] := List.eq_nil_of_length_eq_zero (by omega)
    rw [dp_nil] at h
    simp at h
    subst h
    exact ⟨rfl, fun x hx => (by cases hx), fun x hx => (by cases hx)⟩
  | succ n ih =>
    intro l xs hl h
    rcases l with _ | ⟨b, r⟩
    · rw [dp_nil] at h
      simp at h
      subst h
      exact ⟨rfl, fun x hx => (by cases hx), fun x hx => (by cases hx)⟩
    · have hft := t1_facts b r
      rw [dp_cons] at h
      obtain ⟨k, own, l', f', ht⟩ : ∃ k own l' f', t1 b r = (k, own, l', f') := ⟨_, _, _, _, rfl⟩
      rw [ht] at h hft
      simp only [List.length_cons] at h hft hl
      by_cases hf : f' = 0
      · subst hf
        cases hk : isKnown k
        · simp [hk] at h
        · simp only [hk, ne_eq, not_true_eq_false, if_false, if_true] at h
          by_cases he : (po k own).2 = 0
          · rw [if_neg (fun h => h he)] at h
            rw [Option.map_eq_some_iff] at h
            obtain ⟨⟨ys, u⟩, h1, h2⟩ := h
            simp only [Prod.mk.injEq] at h2
            obtain ⟨h2, rfl⟩ := h2
            subst h2
            obtain ⟨i1, i2, i3⟩ := ih l' ys (by omega) h1
            obtain ⟨p1, p2, p3⟩ := po_sound hk he
            obtain ⟨t1', t2⟩ := t1_sound ht
            have hfit := po_fits k own
            generalize (po k own).1 = x at *
            have hb : b = UInt8.ofNat x.K := by rw [p2, t1']; simp
            refine ⟨?_, fun y hy => ?_, fun y hy => ?_⟩
            · rw [List.flatMap_cons, ← i1]
              show b :: r = (UInt8.ofNat x.K :: (coin x.body.length ++ x.body)) ++ l'
              rw [List.cons_append, ← p1, ← hb, t2]
            · rcases List.mem_cons.1 hy with rfl | hy
              · exact hfit
              · exact i2 y hy
            · rcases List.mem_cons.1 hy with rfl | hy
              · exact p3
              · exact i3 y hy
          · rw [if_pos he] at h; cases h
      · rw [if_pos hf] at h; cases h
theorem dec_forms (p : List UInt8) : dec p = (5, 0, [], 0) ∨ dec p = (4, 0, [], 0) ∨ dec p = (6, 0, [], 0) ∨ (dec p).1 = 0 := by
  unfold dec
  split
  · exact .inl rfl
  · split
    · exact .inr (.inl rfl)
    · split
      · exact .inr (.inl rfl)
      · split
        · exact .inr (.inl rfl)
        · split
          · exact .inr (.inr (.inl rfl))
          · exact .inr (.inr (.inr rfl))
theorem dec_bad (p : List UInt8) (h : (dec p).1 ≠ 0) : (dec p).2 = (0, [], 0) := by
  rcases dec_forms p with e | e | e | e
  · rw [e]
  · rw [e]
  · rw [e]
  · exact absurd e h
theorem dec_sums (p : List UInt8) (h : (dec p).1 = 0) : 6 ≤ p.length ∧ tailb (more 0 (p.take (p.length - 4))) = p.drop (p.length - 4) := by
  unfold dec at h
  split at h
  · cases h
  · split at h
    · cases h
    · rename_i h1 h2
      exact ⟨by omega, Classical.byContradiction fun h3 => h2 h3⟩
/-- Bytes with their sum that are read, and have no strange parts, are those of what they are read as. -/
theorem dec_sound (p : List UInt8) (f : Nat) (xs : List Pt) (h : dec (sealB p) = (0, f, xs, 0)) : enc f xs = sealB p ∧ f < 16 ∧ (∀ x ∈ xs, x.Fits) := by
  have h6 := (dec_sums (sealB p) (by rw [h])).1
  rw [seal_len] at h6
  rcases p with _ | ⟨b, p⟩
  · simp at h6
  · simp only [List.length_cons] at h6
    rw [dec_sealed b p (by omega)] at h
    by_cases hb : b = 1
    · subst hb
      rw [if_neg (fun h => h rfl)] at h
      obtain ⟨a, l1, f1, e1, b1, k1, g1⟩ := tk_next p 0 15 (by decide)
      rw [e1] at h
      simp only at h
      by_cases hf : f1 = 0
      · subst hf
        rw [if_neg (fun h => h rfl)] at h
        cases hd : dp l1 with
        | none => rw [hd] at h; simp [decR] at h
        | some t =>
          obtain ⟨ys, u⟩ := t
          rw [hd] at h
          simp only [decR] at h
          split at h
          · simp at h
          · rename_i h3
            simp only [Prod.mk.injEq, true_and] at h
            obtain ⟨rfl, rfl, rfl⟩ := h
            obtain ⟨_, s1⟩ := tk_sound e1
            obtain ⟨i1, i2, i3⟩ := dp_sound l1.length l1 ys (Nat.le_refl _) hd
            refine ⟨?_, by omega, i2⟩
            unfold enc encB
            rw [kept_all ys i3 (by omega), ← i1, s1]
            rfl
      · rw [if_pos hf] at h; simp [decR] at h
    · rw [if_pos hb] at h; simp at h
/-- A packet of which one byte is another one. -/
theorem dec_turn (p : List UInt8) (k : Nat) (hk : k < (sealB p).length) (t : Nat) (ht : t < 256) (h0 : t ≠ 0) : (dec ((sealB p).set k (UInt8.ofNat (((sealB p)[k]).toNat ^^^ t)))).1 ≠ 0 := by
  intro h
  have h := (dec_sums _ h).2
  have hl : ((sealB p).set k (UInt8.ofNat (((sealB p)[k]).toNat ^^^ t))).length - 4 = p.length := by rw [List.length_set, seal_len]; omega
  rw [hl] at h
  have hk2 := hk
  rw [seal_len] at hk2
  by_cases hp : k < p.length
  · have e1 : ((sealB p)[k]) = p[k] := by unfold sealB; exact List.getElem_append_left hp
    have e2 : ((sealB p).set k (UInt8.ofNat (((sealB p)[k]).toNat ^^^ t))) = p.set k (UInt8.ofNat ((p[k]).toNat ^^^ t)) ++ tailb (more 0 p) := by
      rw [e1]; unfold sealB; exact List.set_append_left _ _ hp
    rw [e2] at h
    have e3 : (p.set k (UInt8.ofNat ((p[k]).toNat ^^^ t))).length = p.length := List.length_set
    rw [List.take_append_of_le_length (by omega), List.take_of_length_le (by omega), List.drop_append_of_le_length (by omega), List.drop_of_length_le (by omega), List.nil_append] at h
    exact more_turn p k hp t ht h0 (tailb_inj _ _ (more_lt _ _) (more_lt _ _) h)
  · have e1 : ((sealB p).set k (UInt8.ofNat (((sealB p)[k]).toNat ^^^ t))) = p ++ (tailb (more 0 p)).set (k - p.length) (UInt8.ofNat (((sealB p)[k]).toNat ^^^ t)) := by
      conv => lhs; unfold sealB
      exact List.set_append_right _ _ (by omega)
    rw [e1] at h
    rw [List.take_append_of_le_length (Nat.le_refl _), List.take_of_length_le (Nat.le_refl _), List.drop_append_of_le_length (Nat.le_refl _), List.drop_of_length_le (Nat.le_refl _), List.nil_append] at h
    have e2 : ((sealB p)[k]) = (tailb (more 0 p))[k - p.length]'(by rw [length_tailb]; omega) := by unfold sealB; exact List.getElem_append_right (by omega)
    have e3 := congrArg (fun l : List UInt8 => l[k - p.length]?) h
    (try simp only at e3)
    rw [List.getElem?_set_self (by rw [length_tailb]; omega), List.getElem?_eq_getElem (by rw [length_tailb]; omega)] at e3
    injection e3 with e3
    rw [e2] at e3
    exact turn_ne _ t ht h0 e3.symm
end Go.Proofs.Ytecfblkagbdjlaa.Msg
