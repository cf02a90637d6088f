/- What takeParts takes, as a function of bytes; contract: takeOne. -/
import Derived.Test.YtecfblkagbdjlaaMg
namespace Go.Proofs.Ytecfblkagbdjlaa.Msg
open Go.ChangeShapes Go.WideShapes Go.ChangeAt Go.RowKit
open Coin (coin sz b8 Rd Row Own CoinOwn put_any sz_le length_coin takeV endV bytesV got got_lt Pur take_any BytesSaid bytes_any)
set_option maxRecDepth 8000

/-- The part of a kind that these bytes tell, and what is left of them. -/
def tp (k : Nat) (own : List UInt8) : Pt × List UInt8 × Nat :=
  if k = 1 then
    let a := takeV own 0 4294967295
    (⟨1, a.1, 0, 0, 0, 0, 0⟩, a.2.1, a.2.2)
  else if k = 2 then
    let a := takeV own 0 15
    let b := takeV a.2.1 a.2.2 65535
    (⟨2, 0, a.1, 0, 0, 0, b.1⟩, b.2.1, b.2.2)
  else if k = 3 then
    let a := takeV own 0 15
    let d := takeV a.2.1 a.2.2 4294967295
    let n := takeV d.2.1 d.2.2 32
    let s := takeV n.2.1 n.2.2 65535
    let m := takeV s.2.1 s.2.2 65535
    (⟨3, 0, a.1, d.1, n.1, s.1, m.1⟩, m.2.1, m.2.2)
  else
    let d := takeV own 0 4294967295
    let n := takeV d.2.1 d.2.2 32
    let s := takeV n.2.1 n.2.2 65535
    let m := takeV s.2.1 s.2.2 64
    (⟨4, m.1, 0, d.1, n.1, s.1, 0⟩, m.2.1, m.2.2)
def po (k : Nat) (own : List UInt8) : Pt × Nat := poR (tp k own).1 (tp k own).2.1 (tp k own).2.2
theorem known_k {k : Nat} (h : isKnown k = true) : k = 1 ∨ k = 2 ∨ k = 3 ∨ k = 4 := by
  unfold isKnown at h
  simp at h
  omega
theorem tp_fits (k : Nat) (own : List UInt8) : (tp k own).1.Fits ∧ (tp k own).2.2 ≤ 12 := by
  unfold tp
  split
  · obtain ⟨n, l1, f1, e1, b1, k1, g1⟩ := tk_next own 0 4294967295 (by decide)
    simp only [e1]
    refine ⟨?_, k1⟩
    constructor <;> (dsimp only; omega)
  · split
    · obtain ⟨a, l1, f1, e1, b1, k1, g1⟩ := tk_next own 0 15 (by decide)
      obtain ⟨b, l2, f2, e2, b2, k2, g2⟩ := tk_next l1 f1 65535 k1
      simp only [e1, e2]
      refine ⟨?_, k2⟩
      constructor <;> (dsimp only; omega)
    · split
      · obtain ⟨a, l1, f1, e1, b1, k1, g1⟩ := tk_next own 0 15 (by decide)
        obtain ⟨d, l2, f2, e2, b2, k2, g2⟩ := tk_next l1 f1 4294967295 k1
        obtain ⟨n, l3, f3, e3, b3, k3, g3⟩ := tk_next l2 f2 32 k2
        obtain ⟨s, l4, f4, e4, b4, k4, g4⟩ := tk_next l3 f3 65535 k3
        obtain ⟨m, l5, f5, e5, b5, k5, g5⟩ := tk_next l4 f4 65535 k4
        simp only [e1, e2, e3, e4, e5]
        refine ⟨?_, k5⟩
        constructor <;> (dsimp only; omega)
      · obtain ⟨d, l2, f2, e2, b2, k2, g2⟩ := tk_next own 0 4294967295 (by decide)
        obtain ⟨n, l3, f3, e3, b3, k3, g3⟩ := tk_next l2 f2 32 k2
        obtain ⟨s, l4, f4, e4, b4, k4, g4⟩ := tk_next l3 f3 65535 k3
        obtain ⟨m, l5, f5, e5, b5, k5, g5⟩ := tk_next l4 f4 64 k4
        simp only [e2, e3, e4, e5]
        refine ⟨?_, k5⟩
        constructor <;> (dsimp only; omega)
theorem po_fits (k : Nat) (own : List UInt8) : (po k own).1.Fits := by
  have h := (tp_fits k own).1
  have h0 : Pt.zero.Fits := ⟨by decide, by decide, by decide, by decide, by decide, by decide, by decide, by decide⟩
  unfold po poR
  split
  · exact h0
  · split
    · exact h
    · exact h0
theorem po_le (k : Nat) (own : List UInt8) : (po k own).2 ≤ 12 := by
  have h := (tp_fits k own).2
  unfold po poR
  split
  · show endV _ _ ≤ 12
    unfold endV; split <;> omega
  · split
    · exact Nat.zero_le _
    · show 4 ≤ 12; decide
theorem part_any (k : Nat) (hk : isKnown k = true) (w : World) (A : Option Addr) (m cap : Nat) (own : List UInt8) (hm : m = own.length) (hl : m ≤ 100000) (hr : Rd w w.heap.size A own) :
    Calls Try.prog 43 #[.int .u8 (k : Int), .slice A m cap] w (PoSaid w (po k own)) := by
  have hfit := tp_fits k own
  unfold po
  rcases known_k hk with rfl | rfl | rfl | rfl
  · obtain ⟨n, l1, f1, e1, b1, k1, g1⟩ := tk_next own 0 4294967295 (by decide)
    have e : tp 1 own = (⟨1, n, 0, 0, 0, 0, 0⟩, l1, f1) := by simp only [tp, e1, if_true]
    rw [e] at hfit ⊢
    exact part1 w A m cap own hm hl hr l1 f1 n (fun q => tkc' e1 (by decide) (by decide)) hfit.1 hfit.2
  · obtain ⟨a, l1, f1, e1, b1, k1, g1⟩ := tk_next own 0 15 (by decide)
    obtain ⟨b, l2, f2, e2, b2, k2, g2⟩ := tk_next l1 f1 65535 k1
    have e : tp 2 own = (⟨2, 0, a, 0, 0, 0, b⟩, l2, f2) := by simp only [tp, e1, e2]; rfl
    rw [e] at hfit ⊢
    exact part2 w A m cap own hm hl hr l1 f1 a l2 f2 b (fun q => nod' e1 (by decide)) (fun q => t16' e2 k1) hfit.1 hfit.2
  · obtain ⟨a, l1, f1, e1, b1, k1, g1⟩ := tk_next own 0 15 (by decide)
    obtain ⟨d, l2, f2, e2, b2, k2, g2⟩ := tk_next l1 f1 4294967295 k1
    obtain ⟨n, l3, f3, e3, b3, k3, g3⟩ := tk_next l2 f2 32 k2
    obtain ⟨s, l4, f4, e4, b4, k4, g4⟩ := tk_next l3 f3 65535 k3
    obtain ⟨m', l5, f5, e5, b5, k5, g5⟩ := tk_next l4 f4 65535 k4
    have e : tp 3 own = (⟨3, 0, a, d, n, s, m'⟩, l5, f5) := by simp only [tp, e1, e2, e3, e4, e5]; rfl
    rw [e] at hfit ⊢
    exact part3 w A m cap own hm hl hr l1 f1 a l3 f3 d n l4 f4 s l5 f5 m' (fun q => nod' e1 (by decide)) (fun q W h => take_pfx e2 e3 k1 W h) (fun q => t16' e4 k3) (fun q => t16' e5 k4) hfit.1 hfit.2
  · obtain ⟨d, l2, f2, e2, b2, k2, g2⟩ := tk_next own 0 4294967295 (by decide)
    obtain ⟨n, l3, f3, e3, b3, k3, g3⟩ := tk_next l2 f2 32 k2
    obtain ⟨s, l4, f4, e4, b4, k4, g4⟩ := tk_next l3 f3 65535 k3
    obtain ⟨m', l5, f5, e5, b5, k5, g5⟩ := tk_next l4 f4 64 k4
    have e : tp 4 own = (⟨4, m', 0, d, n, s, 0⟩, l5, f5) := by simp only [tp, e2, e3, e4, e5]; rfl
    rw [e] at hfit ⊢
    exact part4 w A m cap own hm hl hr l3 f3 d n l4 f4 s l5 f5 m' (fun q W h => take_pfx e2 e3 (by decide) W h) (fun q => t16' e4 k3) (fun q => tkc' e5 k4 (by decide)) hfit.1 hfit.2
/-- The next part's kind and bytes. -/
def t1 (b : UInt8) (r : List UInt8) : Nat × List UInt8 × List UInt8 × Nat :=
  let s := takeV r 0 r.length
  let o := bytesV s.2.1 s.2.2 s.1
  if o.2.2 = 0 then (b.toNat, o.1, o.2.1, 0) else (0, [], o.2.1, o.2.2)
theorem by_facts (l : List UInt8) (f : Nat) (n : Nat) (hf : f ≤ 12) : (bytesV l f n).1.length ≤ l.length ∧ (bytesV l f n).2.1.length ≤ l.length ∧ (bytesV l f n).2.2 ≤ 12 := by
  unfold bytesV
  split
  · exact ⟨Nat.zero_le _, Nat.le_refl _, hf⟩
  · split
    · exact ⟨Nat.zero_le _, Nat.le_refl _, by show 5 ≤ 12; decide⟩
    · exact ⟨by rw [List.length_take]; omega, by rw [List.length_drop]; omega, Nat.zero_le _⟩
theorem t1_facts (b : UInt8) (r : List UInt8) : (t1 b r).1 < 256 ∧ (t1 b r).2.1.length ≤ r.length ∧ (t1 b r).2.2.1.length ≤ r.length ∧ (t1 b r).2.2.2 ≤ 12 := by
  obtain ⟨n, l1, f1, e1, b1, k1, g1⟩ := tk_next r 0 r.length (by decide)
  have h := by_facts l1 f1 n k1
  have hb := b.toNat_lt
  simp only [t1, e1]
  split
  · exact ⟨hb, by show (bytesV l1 f1 n).1.length ≤ _; omega, by show (bytesV l1 f1 n).2.1.length ≤ _; omega, Nat.zero_le _⟩
  · exact ⟨by show 0 < 256; decide, Nat.zero_le _, by show (bytesV l1 f1 n).2.1.length ≤ _; omega, h.2.2⟩
theorem rd_off {w w' : World} {B q f : Nat} {A : Option Addr} {l lq : List UInt8} (h : Rd w B A l) (hB : B ≤ w.heap.size) (hp : Pur w q lq f) (hg : w.grownBy w' (some q)) : Rd w' B A l := fun h0 => by
  obtain ⟨ad, e, hb, hc⟩ := h h0
  refine ⟨ad, e, hb, fun j hj => ?_⟩
  have hne : ad.block ≠ q := fun e2 => by
    have h1 := hc j hj
    have hs := World.cell?_spot h1
    obtain ⟨g, off, cap, hq, _⟩ := hp
    have hbk : (ad.add j).block = q := by rw [Coin.block_add]; exact e2
    obtain ⟨bb, oo, sp, e3⟩ : ∃ bb oo sp, ad.add j = (⟨bb, oo, sp⟩ : Addr) := ⟨_, _, _, rfl⟩
    rw [e3] at h1 hs hbk
    have hs : sp = none := hs
    have hbk : bb = q := hbk
    subst hs hbk
    rw [cell_of_row w _ oo _ 72 (0, 0) hq] at h1
    rcases oo with _ | _ | oo
    · simp [b8] at h1
    · simp [b8] at h1
    · simp at h1
  exact (World.cell?_of_block (a := ad.add j) (by rw [Coin.block_add]; exact hg.block ad.block (Nat.lt_of_lt_of_le hb hB) (fun e => hne (by injection e)))).trans (hc j hj)
/-- What takeOne answers. -/
def T1Said (w : World) (q : Nat) (t : Nat × List UInt8 × List UInt8 × Nat) (e : Ending) (w' : World) : Prop :=
  ∃ A n c, e = .returned (.tuple #[.int .u8 (t.1 : Int), .slice A n c]) ∧ n = t.2.1.length ∧ Rd w' w'.heap.size A t.2.1 ∧ Pur w' q t.2.2.1 t.2.2.2 ∧ w.grownBy w' (some q)
end Go.Proofs.Ytecfblkagbdjlaa.Msg
