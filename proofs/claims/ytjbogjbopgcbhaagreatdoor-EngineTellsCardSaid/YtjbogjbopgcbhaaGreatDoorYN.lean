/- A law's router: what is chosen of what two tell at first. A law's router: what is told of one prefix alone, step by step (pure). A law's router: a packet of one update; Select (calls). -/
import Derived.Test.YtjbogjbopgcbhaaGreatDoorYM
namespace Go.Proofs.YtjbogjbopgcbhaaGreatDoor.Eg
open Pre Ser Rts
open Go.Proofs.YtjbogjbopgcbhaaGreatDoor.Src (row1 row2 Mk SrcAt)
open Go.Proofs.YtjbogjbopgcbhaaGreatDoor.Lk (LkAt)
open Go.ChangeShapes Go.WideShapes Go.ChangeAt Go.RowKit
set_option maxRecDepth 8000
set_option linter.unusedVariables false
set_option linter.unusedSimpArgs false
open Go.Proofs.YtjbogjbopgcbhaaGreatDoor.Src (pv mv pA pN)
set_option linter.unusedSimpArgs false
theorem upd_p {a b : Nat} {e : Eng} (h : Met a b e) {k now p s m : Nat} : e.upd k now (uP (pA p) (pN p) s m) = { e with L := tellL e.L k now (uP (pA p) (pN p) s m) } := by
  unfold Eng.upd
  rw [if_neg (by rw [show (uP (pA p) (pN p) s m).a = pA p from rfl, show (uP (pA p) (pN p) s m).l = pN p from rfl, h.p_own]; decide)]
end Go.Proofs.YtjbogjbopgcbhaaGreatDoor.Eg
namespace Go.Proofs.YtjbogjbopgcbhaaGreatDoor.Eg
open Pre Ser Rts
open Go.Proofs.YtjbogjbopgcbhaaGreatDoor.Src (row1 row2 Mk SrcAt)
open Go.Proofs.YtjbogjbopgcbhaaGreatDoor.Lk (LkAt)
open Go.ChangeShapes Go.WideShapes Go.ChangeAt Go.RowKit
set_option maxRecDepth 8000
set_option linter.unusedVariables false
set_option linter.unusedSimpArgs false
open Go.Proofs.YtjbogjbopgcbhaaGreatDoor.Src (pv mv pA pN)
set_option linter.unusedSimpArgs false
theorem near_same (s m n : Nat) : nearer (s : Int) (m : Int) (s : Int) (n : Int) = decide (m < n) := by
  unfold nearer
  rw [newer_self]
  simp
theorem feas_same {f : Mk} {a n s k m : Nat} (h : f a n = some (s, k)) : f.feas a n (s, m) = (decide (m = 65535) || decide (m < k)) := by
  unfold Mk.feas
  rw [h]
  simp only [near_same]
theorem best_none {f : Mk} {a n : Nat} {m : Nat × Nat} (h : f a n = none) : f.best a n m = m := by
  unfold Mk.best
  rw [h]
structure St (a b p : Nat) (L : List E) (mk : Option (Nat × Nat)) (x y z : Nat) (e : Eng) : Prop where
  met : Met a b e
  L : e.L = L
  f : e.f (pA p) (pN p) = mk
  sz : Sz e x y z
theorem St.m0 (a b p : Nat) : St a b p [] none 0 0 0 (Eng.m0 a b) := ⟨m0_met a b, rfl, rfl, ⟨Nat.le_refl 0, Nat.le_refl 0, Nat.le_refl 0⟩⟩
theorem St.upd {a b p : Nat} {L : List E} {mk : Option (Nat × Nat)} {x y z : Nat} {e : Eng} (h : St a b p L mk x y z e) (k now s m : Nat) : St a b p (tellL L k now (uP (pA p) (pN p) s m)) mk x y z (e.upd k now (uP (pA p) (pN p) s m)) := by
  rw [upd_p h.met, h.L]
  exact ⟨h.met.up _, rfl, h.f, h.sz⟩
def AllP (p : Nat) (L : List E) : Prop := ∀ x ∈ L, x.a = pA p ∧ x.n = pN p
theorem AllP.one (p b s m now : Nat) : AllP p (one (pA p) (pN p) b s m now) := fun x hx => by
  unfold Eg.one at hx
  split at hx
  · cases hx
  · rw [List.mem_singleton] at hx
    subst hx
    exact ⟨rfl, rfl⟩
theorem AllP.two {p : Nat} {L L' : List E} (h : AllP p L) (h' : AllP p L') : AllP p (L ++ L') := fun x hx => (List.mem_append.1 hx).elim (h x) (h' x)
theorem St.sok {a b p : Nat} {L : List E} {mk : Option (Nat × Nat)} {x y z : Nat} {e : Eng} (h : St a b p L mk x y z e) (hp : AllP p L) (h1 : x + 1 + L.length ≤ 230) (h2 : y + z ≤ 800) : e.SelOk :=
  h.met.sok (fun u hu => by
    rw [h.L] at hu
    obtain ⟨e1, e2⟩ := hp u hu
    rw [e1, e2]
    exact ⟨Src.p_right p, p, rfl, rfl⟩) h.sz (by rw [h.L]; exact h1) h2
def mkTo (f : Option (Nat × Nat)) (g : Nat × Nat → Nat × Nat) : Option Ro → Option (Nat × Nat)
  | some r => some (g (r.s, r.m))
  | none => f
theorem St.sel {a b p : Nat} {L : List E} {mk : Option (Nat × Nat)} {x y z : Nat} {e e' : Eng} {ts : List Ro} (h : St a b p L mk x y z e) (so : e.SelOk) (ok : e.Ok) (hs : Sel e e' ts) :
    look e'.ch (pA p) (pN p) = selP e.cf e.f L (pA p) (pN p) ∧ St a b p L (mkTo mk (e.f.best (pA p) (pN p)) (selP e.cf e.f L (pA p) (pN p))) (x + 1 + L.length) (y + z) (1 + L.length) e' ∧ look e'.ch 201326592 24 = some ⟨201326592, 24, 0, 0, 1⟩ ∧ e'.ch = ts := by
  obtain ⟨hc, ht⟩ := hs.chose ok so
  have hpl : pN p < 256 := by have := Src.pN_le p; omega
  have h1 := hc.other _ _ hpl (h.met.p_own p)
  rw [h.L] at h1
  refine ⟨h1, ⟨h.met.sel hc, by rw [hc.keep]; exact h.L, ?_, h.sz.sel hc (by rw [h.met.own]; exact Nat.le_refl 1) (by rw [h.L]; exact Nat.le_refl _)⟩, h.met.own_look hc, ht⟩
  rw [hc.mark _ _ hpl, h1, h.f]
  cases selP e.cf e.f L (pA p) (pN p) <;> rfl
end Go.Proofs.YtjbogjbopgcbhaaGreatDoor.Eg
namespace Go.Proofs.YtjbogjbopgcbhaaGreatDoor.Eg
open Pre Ser Rts
open Go.Proofs.YtjbogjbopgcbhaaGreatDoor.Src (row1 row2 Mk SrcAt)
open Go.Proofs.YtjbogjbopgcbhaaGreatDoor.Lk (LkAt)
open Go.ChangeShapes Go.WideShapes Go.ChangeAt Go.RowKit
set_option maxRecDepth 8000
set_option linter.unusedVariables false
set_option linter.unusedSimpArgs false
open Go.Proofs.YtjbogjbopgcbhaaGreatDoor.Src (pv mv pA pN)
set_option linter.unusedSimpArgs false
theorem feas_none {f : Mk} {a n : Nat} {m : Nat × Nat} (h : f a n = none) : f.feas a n m = true := by
  unfold Mk.feas
  rw [h]
  simp
theorem one_eq {a n b s m now : Nat} (hm : m ≠ 65535) : one a n b s m now = [⟨a, n, b, 3, s, m, now + 50⟩] := if_neg hm
end Go.Proofs.YtjbogjbopgcbhaaGreatDoor.Eg
