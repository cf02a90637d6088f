/- A router: somebody asks for a newer serial. A router: somebody asks for a newer serial of what isn't its own. A law's router: what it tells, and what is asked of it. -/
import Derived.Test.YtjbogjbopgcbhaaGreatDoorYO
import Derived.Test.YtjbogjbopgcbhaaGreatDoorYQ
namespace Go.Proofs.YtjbogjbopgcbhaaGreatDoor.Eg
open Pre Ser Rts
open Go.Proofs.YtjbogjbopgcbhaaGreatDoor.Src (row1 row2 Mk SrcAt)
open Go.Proofs.YtjbogjbopgcbhaaGreatDoor.Lk (LkAt)
open Go.ChangeShapes Go.WideShapes Go.ChangeAt Go.RowKit
set_option maxRecDepth 8000
set_option linter.unusedVariables false
set_option linter.unusedSimpArgs false
open Go.Proofs.YtjbogjbopgcbhaaGreatDoor.Src (pv mv pA pN)
set_option linter.unusedSimpArgs false
theorem own_lt {lo : Nat} {w : World} {q : Nat} {e : Eng} {m : Mem} (h : EngAt lo w q e m) {b : Nat} (hb : m.vo.ownBlock = some b) : b < w.heap.size := by
  obtain ⟨-, cur, hg⟩ := h.p.own.lt hb
  exact (Array.getElem?_eq_some_iff.1 hg).1
end Go.Proofs.YtjbogjbopgcbhaaGreatDoor.Eg
namespace Go.Proofs.YtjbogjbopgcbhaaGreatDoor.Eg
open Pre Ser Rts
open Go.Proofs.YtjbogjbopgcbhaaGreatDoor.Src (row1 row2 Mk SrcAt)
open Go.Proofs.YtjbogjbopgcbhaaGreatDoor.Lk (LkAt)
open Go.ChangeShapes Go.WideShapes Go.ChangeAt Go.RowKit
set_option maxRecDepth 8000
set_option linter.unusedVariables false
set_option linter.unusedSimpArgs false
open Go.Proofs.YtjbogjbopgcbhaaGreatDoor.Src (pv mv pA pN)
set_option linter.unusedSimpArgs false
end Go.Proofs.YtjbogjbopgcbhaaGreatDoor.Eg
namespace Go.Proofs.YtjbogjbopgcbhaaGreatDoor.Eg
open Pre Ser Rts
open Go.Proofs.YtjbogjbopgcbhaaGreatDoor.Src (row1 row2 Mk SrcAt)
open Go.Proofs.YtjbogjbopgcbhaaGreatDoor.Lk (LkAt)
open Go.ChangeShapes Go.WideShapes Go.ChangeAt Go.RowKit
set_option maxRecDepth 8000
set_option linter.unusedVariables false
set_option linter.unusedSimpArgs false
open Go.Proofs.YtjbogjbopgcbhaaGreatDoor.Src (pv mv pA pN)
set_option linter.unusedSimpArgs false
theorem Eng.Ok.own {e : Eng} (h : e.Ok) {l : List Hm} {d : Bool} (h1 : ∀ g ∈ l, g.a < 4294967296 ∧ Pre.right g.a g.n = true ∧ g.n < 256 ∧ g.s < 65536) (h2 : l.length ≤ 100) : ({ e with own := l, due := d } : Eng).Ok :=
  ⟨h.idl, h.nbu, h.nbl, h.nbk, h.ri, h.lok, h.lle, h.chu, h.cho, h.chl, h1, h2, h.lou, h.loo, h.lol, h.rql, h.cl, h.cts⟩
theorem tell_lw {w W : World} {q : Nat} {e : Eng} {K : Kept} (h : LW w W q e K) (hhe : e.he ≤ 900000) (hll : e.lost.length ≤ 400) (now : Nat) (AR : Option Addr) (kr cr : Nat) (L : List Rw) (hk : kr = L.length) (hkl : kr ≤ 1000) (hsr : GSl 10 Rw.cl W AR L) (hAR : AR = none ∨ ∃ z x, AR = some ⟨z, 0, none⟩ ∧ (z, x, 62) ∈ K) :
    Calls Tryz.prog 24 #[.pointer (some ⟨q, 0, none⟩), .int .u64 (now : Int), .slice AR kr cr] W fun en w' => ∃ A n c, en = .returned (.tuple #[.agg #[.int .i64 ((if e.tellP now L = [] then 0 else e.id : Nat) : Int), .slice A n c], .bool (decide (e.tellP now L ≠ []))]) ∧ n = (e.tellP now L).length ∧ GSl 7 Pt.cl w' A (e.tellP now L) ∧ (A = none → c = 0) ∧ n ≤ c ∧ LW w w' q (e.tellE now) K := by
  obtain ⟨m, hE, hK⟩ := h.ex
  refine (tellp_any W _ q e m hE h.ok hhe hll now AR kr cr L hk hkl hsr (fun b' o e9 => ?_)).mono ?_
  · rcases hAR with h0 | ⟨z, x, h0, h1⟩
    · rw [h0] at e9; cases e9
    · rw [h0] at e9
      injection e9 with e9
      injection e9 with e1
      subst e1
      obtain ⟨k1, k2, k3⟩ := hK _ h1
      exact ⟨k3, _, _, k2, k1⟩
  rintro en w' ⟨A, n, c, rfl, hn, hO, ⟨m', hE', F, X, -⟩, ok'⟩
  obtain ⟨A2, c2, n2, hv, hs, -, hA⟩ := own_open hO
  obtain ⟨A3, c3, hv3, hle, -⟩ := hO.form (fun _ => rfl)
  injection hv with e1 e2 e3
  subst e1 e2 e3
  injection hv3 with e1 e2 e3
  subst e3
  exact ⟨A, n, c, rfl, hn, hs, hA, by rw [hn]; exact hle, LW.to h.b hK hE' F X ok'⟩
theorem Met.tell {a b : Nat} {e : Eng} (h : Met a b e) (now : Nat) : Met a b (e.tellE now) := ⟨h.id, h.own, h.nb, h.st, h.fu, h.nr⟩
end Go.Proofs.YtjbogjbopgcbhaaGreatDoor.Eg
