/- Acts that came in: a slice of them, read out of memory. A law's router: what went wrong; two lists of ways. A law's router: what one neighbor tells, chosen twice (pure). -/
import Derived.Test.YtjbogjbopgcbhaaGreatDoorYF
import Derived.Deep.Fields
import Derived.OpenShut
import Derived.Test.YtjbogjbopgcbhaaGreatDoorYN
namespace Go.Proofs.YtjbogjbopgcbhaaGreatDoor.Eg
open Go.ChangeShapes Go.WideShapes Go.ChangeAt Go.RowKit
set_option maxRecDepth 8000
set_option linter.unusedVariables false
structure HAct where
  P : Nat
  Via : Nat
  Metric : Nat
  Seq : Nat
  Later : Nat
instance : Inhabited HAct := ⟨⟨0, 0, 0, 0, 0⟩⟩
structure HAt (w : World) (b o : Nat) (d : HAct) : Prop where
  k0 : w.cell? ⟨b, o, none⟩ = some (.int .u8 (d.P : Int))
  k1 : w.cell? ⟨b, o + 1, none⟩ = some (.int .u8 (d.Via : Int))
  k2 : w.cell? ⟨b, o + 2, none⟩ = some (.int .u8 (d.Metric : Int))
  k3 : w.cell? ⟨b, o + 3, none⟩ = some (.int .u8 (d.Seq : Int))
  k4 : w.cell? ⟨b, o + 4, none⟩ = some (.int .u8 (d.Later : Int))
  hP : d.P < 256
  hV : d.Via < 256
  hM : d.Metric < 256
  hS : d.Seq < 256
  hL : d.Later < 256
theorem HAt.keep {w w' : World} {b o : Nat} {d : HAct} (h : HAt w b o d) (hb : w'.heap[b]? = w.heap[b]?) : HAt w' b o d := by
  have k : ∀ i, w'.cell? ⟨b, i, none⟩ = w.cell? ⟨b, i, none⟩ := fun i => World.cell?_of_block (a := ⟨b, i, none⟩) hb
  exact ⟨(k _).trans h.k0, (k _).trans h.k1, (k _).trans h.k2, (k _).trans h.k3, (k _).trans h.k4, h.hP, h.hV, h.hM, h.hS, h.hL⟩
def HSl (w : World) (A : Option Addr) (ds : List HAct) : Prop := ∀ k (hk : k < ds.length), ∃ b o, A = some ⟨b, o, none⟩ ∧ b < w.heap.size ∧ HAt w b (o + k * 5) ds[k]
theorem HSl.below {w w' : World} {A : Option Addr} {ds : List HAct} (h : HSl w A ds) (B : Below w.heap.size w w') : HSl w' A ds := fun k hk => by
  obtain ⟨b, o, e, hlt, hc⟩ := h k hk
  exact ⟨b, o, e, Nat.lt_of_lt_of_le hlt B.size, hc.keep (B.block b hlt)⟩
theorem five {α : Type} (cs : List α) (h : cs.length = 5) : ∃ v0 v1 v2 v3 v4, cs = [v0, v1, v2, v3, v4] := by
  rcases cs with _ | ⟨v0, _ | ⟨v1, _ | ⟨v2, _ | ⟨v3, _ | ⟨v4, _ | ⟨v5, cs⟩⟩⟩⟩⟩⟩
  · simp at h
  · simp at h
  · simp at h
  · simp at h
  · simp at h
  · exact ⟨v0, v1, v2, v3, v4, rfl⟩
  · simp at h
abbrev ActD := HAct
def IsActs (w : World) (a : Option Addr) (len cap : Nat) (ds : List ActD) : Prop :=
  len = ds.length ∧ len ≤ cap ∧ cap ≤ maxLen ∧ HSl w a ds ∧ (a = none → cap = 0)
structure HAct.Ok (d : HAct) : Prop where
  P : d.P < 256
  V : d.Via < 256
  M : d.Metric < 256
  S : d.Seq < 256
  L : d.Later < 256
theorem HSl.ok {w : World} {A : Option Addr} {ds : List HAct} (h : HSl w A ds) : ∀ d ∈ ds, d.Ok := fun d hd => by
  obtain ⟨k, hk, rfl⟩ := List.getElem_of_mem hd
  obtain ⟨b, o, _, _, ha⟩ := h k hk
  exact ⟨ha.hP, ha.hV, ha.hM, ha.hS, ha.hL⟩
theorem IsActs.step {w W : World} {a : Option Addr} {len cap : Nat} {ds : List HAct} (h : IsActs w a len cap ds) (B : Below w.heap.size w W) : IsActs W a len cap ds := ⟨h.1, h.2.1, h.2.2.1, h.2.2.2.1.below B, h.2.2.2.2⟩
end Go.Proofs.YtjbogjbopgcbhaaGreatDoor.Eg
namespace Go.Proofs.YtjbogjbopgcbhaaGreatDoor.Eg
open Pre Ser Rts
open Go.Proofs.YtjbogjbopgcbhaaGreatDoor.Src (row1 row2 Mk SrcAt)
open Go.Proofs.YtjbogjbopgcbhaaGreatDoor.Lk (LkAt)
open Go.ChangeShapes Go.WideShapes Go.ChangeAt Go.RowKit
set_option maxRecDepth 8000
set_option linter.unusedVariables false
set_option linter.unusedSimpArgs false
open Go.Proofs.YtjbogjbopgcbhaaGreatDoor.Src (pv mv pA pN)
set_option linter.unusedSimpArgs false
theorem EngP.nums {lo : Nat} {w : World} {e e' : Eng} {m : Mem} (h : EngP lo w e m) (he : e' = { e with bad := e'.bad, st := e'.st, he := e'.he, due := e'.due }) : EngP lo w e' m := by
  rw [he]
  exact ⟨h.own, h.src, h.rts, h.nbs, h.lsl, h.lks, h.nd, h.ch, h.lost, h.rq, h.tab, h.lo0⟩
theorem LW.cell {w W : World} {q : Nat} {e e' : Eng} {K : Kept} (h : LW w W q e K) (i : Nat) (v : Value) (hp : ∀ m, EngP w.heap.size W e m → EngP w.heap.size W e' m ∧ (e.row m).setIfInBounds i v = e'.row m) (ok : e'.Ok) : LW w (W.setCell ⟨q, i, none⟩ v) q e' K := by
  obtain ⟨m, hE, hK⟩ := h.ex
  obtain ⟨h1, h2⟩ := hp m hE.p
  have F : Fr (fun k => k = q) W (W.setCell ⟨q, i, none⟩ v) := Fr.grown (grown_setCell W q i v) (fun k e => (Option.some.inj e).symm)
  exact LW.to h.b hK (EngAt.put hE.row hE.le h1 i v h2) (Ef.frm F h.b.size (fun k hk => hk ▸ hE.le) (fun k hk => Or.inl hk)) (fun k hk => Or.inl hk) ok
theorem Eng.Ok.nums {e e' : Eng} (h : e.Ok) (he : e' = { e with bad := e'.bad, st := e'.st, he := e'.he, due := e'.due }) (h1 : e'.bad ≤ 1000000 ∧ e'.st ≤ 1000000 ∧ e'.he ≤ 1000000) : e'.Ok := by
  have h2 := h.cts
  rw [he]
  exact ⟨h.idl, h.nbu, h.nbl, h.nbk, h.ri, h.lok, h.lle, h.chu, h.cho, h.chl, h.owo, h.owl, h.lou, h.loo, h.lol, h.rql, h.cl, h1.1, h1.2.1, h2.2.2.1, h2.2.2.2.1, h1.2.2⟩
theorem set4 {w : World} {b : Nat} {t : TypeId} {x0 x1 x2 x3 : Value} (h : w.heap[b]? = some (.cells #[x0, x1, x2, x3] t (0, 0))) (y0 y1 y2 y3 : Value) : ((((w.setCell ⟨b, 0, none⟩ y0).setCell ⟨b, 1, none⟩ y1).setCell ⟨b, 2, none⟩ y2).setCell ⟨b, 3, none⟩ y3).heap[b]? = some (.cells #[y0, y1, y2, y3] t (0, 0)) := by
  have h6 := heap_setCell_same _ b 3 _ t y3 (heap_setCell_same _ b 2 _ t y2 (heap_setCell_same _ b 1 _ t y1 (heap_setCell_same w b 0 _ t y0 h)))
  simpa using h6
end Go.Proofs.YtjbogjbopgcbhaaGreatDoor.Eg
namespace Go.Proofs.YtjbogjbopgcbhaaGreatDoor.Eg
open Pre Ser Rts
open Go.Proofs.YtjbogjbopgcbhaaGreatDoor.Src (row1 row2 Mk SrcAt)
open Go.Proofs.YtjbogjbopgcbhaaGreatDoor.Lk (LkAt)
open Go.ChangeShapes Go.WideShapes Go.ChangeAt Go.RowKit
set_option maxRecDepth 8000
set_option linter.unusedVariables false
set_option linter.unusedSimpArgs false
open Go.Proofs.YtjbogjbopgcbhaaGreatDoor.Src (pv mv pA pN)
set_option linter.unusedSimpArgs false
structure CI (e : Eng) (i : Nat) : Prop where
  met : Met 96 96 e
  f : e.f = f0
  sz : Sz e 0 0 0
  bad : e.bad = 0
  st : e.st = 0
  L : ∀ x ∈ e.L, x.b = 1 ∧ x.s = 5 ∧ x.m ≤ 255 ∧ ∃ p, x.a = pA p ∧ x.n = pN p
  len : e.L.length ≤ i
theorem CI.start : CI (Eng.m0 96 96) 0 := ⟨m0_met 96 96, rfl, ⟨Nat.le_refl 0, Nat.le_refl 0, Nat.le_refl 0⟩, rfl, rfl, fun x hx => (by cases hx), Nat.le_refl 0⟩
theorem CI.step {e : Eng} {i p m : Nat} (h : CI e i) (ok : e.Ok) (hm : m ≤ 255) : CI (e.upd 1 2 (uP (pA p) (pN p) 5 m)) (i + 1) := by
  rw [upd_p h.met]
  have hne : ¬ (uP (pA p) (pN p) 5 m).m = 65535 := fun h9 => by
    have h9 : m = 65535 := h9
    omega
  have hL : tellL e.L 1 2 (uP (pA p) (pN p) 5 m) = putE e.L ⟨pA p, pN p, 1, 3, 5, m, 52⟩ := if_neg hne
  refine ⟨h.met.up _, h.f, h.sz, h.bad, h.st, fun x hx => ?_, ?_⟩
  · have hx : x ∈ tellL e.L 1 2 (uP (pA p) (pN p) 5 m) := hx
    rw [hL] at hx
    rcases (putE_mem ok.ri _ x).1 hx with rfl | ⟨hx, -⟩
    · exact ⟨rfl, rfl, hm, p, rfl, rfl⟩
    · exact h.L x hx
  · have := (tellL_ok ok.ri ok.lok (b := 1) (now := 2) (uP_ok (p := p) (s := 5) (m := m) (by decide) (by omega)) (by decide) (by decide)).2.2
    have h2 := h.len
    show (tellL e.L 1 2 (uP (pA p) (pN p) 5 m)).length ≤ i + 1
    omega
theorem CI.sok {e : Eng} {i : Nat} (h : CI e i) (hi : i ≤ 100) : e.SelOk := h.met.sok (fun x hx => by
    obtain ⟨-, -, -, p, e1, e2⟩ := h.L x hx
    rw [e1, e2]
    exact ⟨Src.p_right p, p, rfl, rfl⟩) h.sz (by have := h.len; omega) (by decide)
end Go.Proofs.YtjbogjbopgcbhaaGreatDoor.Eg
