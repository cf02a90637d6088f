/- A law's router, with any serial of its own; what it asks for. -/
import Derived.Test.YtjbogjbopgcbhaaGreatDoorYR
namespace Go.Proofs.YtjbogjbopgcbhaaGreatDoor.Eg
open Pre Ser Rts
open Go.Proofs.YtjbogjbopgcbhaaGreatDoor.Src (row1 row2 Mk SrcAt)
open Go.Proofs.YtjbogjbopgcbhaaGreatDoor.Lk (LkAt)
open Go.ChangeShapes Go.WideShapes Go.ChangeAt Go.RowKit
set_option maxRecDepth 8000
set_option linter.unusedVariables false
set_option linter.unusedSimpArgs false
open Go.Proofs.YtjbogjbopgcbhaaGreatDoor.Src (pv mv pA pN)
set_option linter.unusedSimpArgs false
def oS (so : Nat) : Hm := ⟨201326592, 24, so⟩
structure MetS (a b sr : Nat) (e : Eng) : Prop where
  id : e.id = 0
  own : e.own = [oS sr]
  nb : e.nb = [(1, lk a), (2, lk b)]
  st : e.st ≤ 1000
  fu : e.fu = 0
  nr : e.nr = 0
theorem MetS.up {a b sr : Nat} {e : Eng} (h : MetS a b sr e) (L : List E) : MetS a b sr { e with L := L } := ⟨h.id, h.own, h.nb, h.st, h.fu, h.nr⟩
theorem MetS.sel {a b sr : Nat} {e e' : Eng} (h : MetS a b sr e) (hc : Chose e e') : MetS a b sr e' := by
  rw [hc.keep]
  exact ⟨h.id, h.own, h.nb, h.st, h.fu, h.nr⟩
theorem MetS.cf1 {a b sr : Nat} {e : Eng} (h : MetS a b sr e) : e.cf 1 = max a 1 := by
  unfold Eng.cf Eng.cost
  rw [h.nb]; exact (if_pos (by decide)).trans (lk_cost a)
theorem MetS.isOwn {a b sr : Nat} {e : Eng} (h : MetS a b sr e) (x n : Nat) : e.isOwn x n = (201326592 == x && 24 == n) := by
  unfold Eng.isOwn
  rw [h.own]
  simp [Hm.is, oS]
theorem MetS.p_own {a b sr : Nat} {e : Eng} (h : MetS a b sr e) (p : Nat) : e.isOwn (pA p) (pN p) = false := by
  rw [h.isOwn]
  have := p_ne p
  by_cases h1 : 201326592 = pA p
  · by_cases h2 : 24 = pN p
    · exact absurd ⟨h1.symm, h2.symm⟩ this
    · simp [h2]
  · simp [h1]
theorem MetS.sok {a b sr : Nat} {e : Eng} (h : MetS a b sr e) (hL : ∀ x ∈ e.L, Pre.right x.a x.n = true ∧ ∃ p, x.a = pA p ∧ x.n = pN p) {x y z : Nat} (hz : Sz e x y z) (h1 : x + 1 + e.L.length ≤ 230) (h2 : y + z ≤ 800) : e.SelOk := by
  obtain ⟨k1, k2, k3⟩ := hz
  refine ⟨fun x hx => (hL x hx).1, fun g hg x hx => ?_, ?_, ?_, by omega⟩
  · rw [h.own, List.mem_singleton] at hg
    subst hg
    obtain ⟨p, e1, e2⟩ := (hL x hx).2
    rw [e1, e2]
    rintro ⟨h3, h4⟩
    exact p_ne p ⟨h3.symm, h4.symm⟩
  · rw [h.own]; exact List.pairwise_singleton _ _
  · rw [h.own]; show e.c + 1 + e.L.length ≤ 230; omega
theorem upd_pS {a b sr : Nat} {e : Eng} (h : MetS a b sr e) {k now p s m : Nat} : e.upd k now (uP (pA p) (pN p) s m) = { e with L := tellL e.L k now (uP (pA p) (pN p) s m) } := by
  unfold Eng.upd
  rw [if_neg (by rw [show (uP (pA p) (pN p) s m).a = pA p from rfl, show (uP (pA p) (pN p) s m).l = pN p from rfl, h.p_own]; decide)]
structure StS (a b sr p : Nat) (L : List E) (mk : Option (Nat × Nat)) (x y z : Nat) (e : Eng) : Prop where
  met : MetS a b sr e
  L : e.L = L
  f : e.f (pA p) (pN p) = mk
  sz : Sz e x y z
theorem StS.upd {a b sr p : Nat} {L : List E} {mk : Option (Nat × Nat)} {x y z : Nat} {e : Eng} (h : StS a b sr p L mk x y z e) (k now s m : Nat) : StS a b sr p (tellL L k now (uP (pA p) (pN p) s m)) mk x y z (e.upd k now (uP (pA p) (pN p) s m)) := by
  rw [upd_pS h.met, h.L]
  exact ⟨h.met.up _, rfl, h.f, h.sz⟩
theorem StS.sok {a b sr p : Nat} {L : List E} {mk : Option (Nat × Nat)} {x y z : Nat} {e : Eng} (h : StS a b sr p L mk x y z e) (hp : AllP p L) (h1 : x + 1 + L.length ≤ 230) (h2 : y + z ≤ 800) : e.SelOk :=
  h.met.sok (fun u hu => by
    rw [h.L] at hu
    obtain ⟨e1, e2⟩ := hp u hu
    rw [e1, e2]
    exact ⟨Src.p_right p, p, rfl, rfl⟩) h.sz (by rw [h.L]; exact h1) h2
theorem MetS.own_look {a b sr : Nat} {e e' : Eng} (h : MetS a b sr e) (hc : Chose e e') : look e'.ch 201326592 24 = some ⟨201326592, 24, 0, 0, sr⟩ := by
  have := hc.own (oS sr) (by rw [h.own]; exact List.mem_singleton_self _)
  rw [h.id] at this
  exact this
theorem StS.sel {a b sr p : Nat} {L : List E} {mk : Option (Nat × Nat)} {x y z : Nat} {e e' : Eng} {ts : List Ro} (h : StS a b sr p L mk x y z e) (so : e.SelOk) (ok : e.Ok) (hs : Sel e e' ts) :
    look e'.ch (pA p) (pN p) = selP e.cf e.f L (pA p) (pN p) ∧ StS a b sr p L (mkTo mk (e.f.best (pA p) (pN p)) (selP e.cf e.f L (pA p) (pN p))) (x + 1 + L.length) (y + z) (1 + L.length) e' ∧ look e'.ch 201326592 24 = some ⟨201326592, 24, 0, 0, sr⟩ ∧ e'.ch = ts := by
  obtain ⟨hc, ht⟩ := hs.chose ok so
  have hpl : pN p < 256 := by have := Src.pN_le p; omega
  have h1 := hc.other _ _ hpl (h.met.p_own p)
  rw [h.L] at h1
  refine ⟨h1, ⟨h.met.sel hc, by rw [hc.keep]; exact h.L, ?_, h.sz.sel hc (by rw [h.met.own]; exact Nat.le_refl 1) (by rw [h.L]; exact Nat.le_refl _)⟩, h.met.own_look hc, ht⟩
  rw [hc.mark _ _ hpl, h1, h.f]
  cases selP e.cf e.f L (pA p) (pN p) <;> rfl
theorem Met.s {a b : Nat} {e : Eng} (h : Met a b e) : MetS a b 1 e := ⟨h.id, h.own, h.nb, h.st, h.fu, h.nr⟩
theorem ask_none {e e' : Eng} {ts : List Ro} (h : Sel e e' ts) (hf : ∀ a n, e.L.filter (ofp a n) = [] ∨ ∃ x ∈ e.L.filter (ofp a n), feasE e'.f x = true) : e'.rq = e.rq := by
  obtain ⟨rs, bs, -, -, -, -, hb, rfl⟩ := h
  have hef : ((((e.lows (e.ways rs)).choose ts).askAll bs)).f = (e.lows (e.ways rs)).f := by rw [askAll_same, choose_same']
  have hbs : bs = [] := by
    cases bs with
    | nil => rfl
    | cons p bs =>
      have h1 := (hb.mem p).1 (List.mem_cons_self ..)
      unfold blk at h1
      rw [Bool.and_eq_true] at h1
      rcases hf p.1 p.2 with h2 | ⟨x, hx, h3⟩
      · rw [h2] at h1; simp at h1
      · rw [hef] at h3
        have h4 : (e.L.filter (ofp p.1 p.2)).any (feasE (e.lows (e.ways rs)).f) = true := List.any_eq_true.2 ⟨x, hx, h3⟩
        rw [h4] at h1; simp at h1
  rw [hbs]
  show ((e.lows (e.ways rs)).choose ts).rq = e.rq
  rw [choose_same', lows_same]
end Go.Proofs.YtjbogjbopgcbhaaGreatDoor.Eg
