/- Shelves of one file, as pure data. -/
import Derived.Test.YtkalgonkaoiapaaAww
namespace Go.Proofs.Ytkalgonkaoiapaa.Shf
open Go.ChangeShapes Go.WideShapes Go.ChangeAt Go.RowKit

def F1 (b : Nat) : Nat → S × Nat := upd (fun _ => ([], 0)) b ([], 0)
def K1 (r : Int) (b : Nat) : M := st r [([97], b)] [] [⟨[], [97], some b⟩] (F1 b) 0 0 1
theorem k1 (r : Int) (b : Nat) : (M.new r).create [97] b = K1 r b ∧ (M.new r).createE [97] = 0 := st_create r [] [] [] (fun _ => ([], 0)) 0 0 0 (name := [97]) (by decide) rfl b
def K2 (r : Int) (b : Nat) (p : S) : M := st r [([97], b)] [] [⟨[], [97], some b⟩] (upd (F1 b) b (p, 0)) p.length 0 2
theorem k2 (r : Int) (b : Nat) (p : S) (h : ¬ ((p.length : Int) > r)) : (K1 r b).append [97] p = K2 r b p ∧ (K1 r b).appendE [97] p = 0 := by
  have := st_append r [([97], b)] [] [⟨[], [97], some b⟩] (F1 b) 0 0 1 (name := [97]) (p := p) (b := b) rfl (by simpa using h)
  refine ⟨?_, this.2⟩
  have h := this.1
  have e : F1 b b = ([], 0) := by simp [F1, upd]
  rw [e, Nat.zero_add] at h
  exact h
def K3 (r : Int) (b : Nat) (p : S) : M := st r [([97], b)] [] [⟨[], [97], some b⟩] (upd (upd (F1 b) b (p, 0)) b (p, p.length)) p.length 0 3
theorem k3 (r : Int) (b : Nat) (p : S) : (K2 r b p).sync [97] = K3 r b p := by
  have h := st_sync r [([97], b)] [] [⟨[], [97], some b⟩] (upd (F1 b) b (p, 0)) p.length 0 2 (name := [97]) (b := b) rfl
  have e : upd (F1 b) b (p, 0) b = (p, 0) := by simp [upd]
  rw [e] at h
  exact h
def K4 (r : Int) (b : Nat) (p : S) : M := st r [([97], b)] [([97], b)] [] (upd (upd (F1 b) b (p, 0)) b (p, p.length)) p.length 0 4
theorem k4 (r : Int) (b : Nat) (p : S) : (K3 r b p).names = K4 r b p := st_names r [([97], b)] [] [⟨[], [97], some b⟩] _ p.length 0 3
def K5 (r : Int) (b : Nat) (p q : S) : M := st r [([97], b)] [([97], b)] [] (upd (upd (upd (F1 b) b (p, 0)) b (p, p.length)) b (p ++ q, p.length)) (p.length + q.length) 0 5
theorem k5 (r : Int) (b : Nat) (p q : S) (h : ¬ ((p.length : Int) + q.length > r)) : (K4 r b p).append [97] q = K5 r b p q := by
  have := (st_append r [([97], b)] [([97], b)] [] (upd (upd (F1 b) b (p, 0)) b (p, p.length)) p.length 0 4 (name := [97]) (p := q) (b := b) rfl (by simpa using h)).1
  have e : upd (upd (F1 b) b (p, 0)) b (p, p.length) b = (p, p.length) := by simp [upd]
  rw [e] at this
  exact this
theorem k6 (r : Int) (b : Nat) (p q : S) (n : Int) : ((K5 r b p q).fall 0 n).readE [97] = 0 ∧ ((K5 r b p q).fall 0 n).readP [97] = p ++ q.take (min n.toNat q.length) := by
  unfold K5
  rw [st_fall]
  have h := fun fl t => st_read r [([97], b)] [([97], b)] [] fl t 0 5 (name := [97]) (b := b) rfl
  refine ⟨(h _ _).1, (h _ _).2.trans ?_⟩
  show (fallF _ [([97], b)] n b).1 = _
  have e : upd (upd (upd (F1 b) b (p, 0)) b (p, p.length)) b (p ++ q, p.length) b = (p ++ q, p.length) := by simp [upd]
  unfold fallF
  rw [if_pos (by simp), e]
  show (p ++ q).take (left (p ++ q, p.length) n) = _
  have e2 : left (p ++ q, p.length) n = p.length + min n.toNat q.length := by unfold left; simp
  rw [e2, List.take_append, Nat.add_sub_cancel_left, List.take_of_length_le (by omega)]
theorem str_app (a b : S) : str a ++ str b = str (a ++ b) := by
  apply ByteArray.ext
  simp [str, ByteArray.data_append]
theorem Rd.take {w : World} {A : Option Addr} {l : List UInt8} (h : Rd w A l) (k : Nat) : Rd w A (l.take k) := fun h0 => by
  simp at h0
  obtain ⟨ad, rfl, hc⟩ := h (by omega)
  refine ⟨ad, rfl, fun j hj => ?_⟩
  rw [hc j (by simp at hj; omega)]
  simp
theorem Rd.lt {w : World} {A : Option Addr} {l : List UInt8} (h : Rd w A l) (h0 : 0 < l.length) (ad : Addr) (e : A = some ad) : ad.block < w.heap.size := by
  obtain ⟨ad', e', hc⟩ := h h0
  rw [e] at e'; injection e' with e'; subst e'
  have h1 := hc 0 h0
  rcases Nat.lt_or_ge ad.block w.heap.size with h | h
  · exact h
  · have e2 : (ad.add 0).block = ad.block := block_add _ _
    simp [World.cell?, e2, Array.getElem?_eq_none h] at h1
/-- Bytes that came in, behind whatever was done to a shelf that is newer. -/
theorem Rd.in {w w' : World} {T : Nat → Tag} {A : Option Addr} {l : List UInt8} (h : Rd w A l) (hB : Below w.heap.size w w') (hT : ∀ k, T k ≠ .none → w.heap.size ≤ k) : RdN w' T A l := by
  refine ⟨h.at (fun ad e h0 => hB.block _ (h.lt h0 ad e)), fun h0 ad e => ⟨?_, Nat.lt_of_lt_of_le (h.lt h0 ad e) hB.size⟩⟩
  cases e2 : T ad.block with
  | none => rfl
  | _ => exact absurd (hT ad.block (by rw [e2]; intro h; cases h)) (by have := h.lt h0 ad e; omega)
end Go.Proofs.Ytkalgonkaoiapaa.Shf
