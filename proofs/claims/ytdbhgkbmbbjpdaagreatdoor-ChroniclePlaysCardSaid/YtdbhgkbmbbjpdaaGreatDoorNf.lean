/- A chronicle in memory, and what leaves it as it was. -/
import Derived.Test.YtdbhgkbmbbjpdaaGreatDoorNe
namespace Go.Proofs.YtdbhgkbmbbjpdaaGreatDoor.Chr
variable {lo : Nat}
open Go.ChangeShapes Go.WideShapes Go.ChangeAt Go.RowKit
open Shf (S str)
open Coin (Rd Row Own sz coin got Pur takeV endV CoinSaid)
open Frm (pack err size kind cnt body noItem itemV OneSaid)
set_option maxRecDepth 8000
open Shf (Tag Ext)
structure ItD where
  k : UInt8
  p : S
  a : Nat
  b : Nat
structure VolD where
  no : Nat
  first : Nat
  its : List ItD
  size : Nat
structure CD where
  most : Nat
  hF : Nat
  hB : Nat
  hU : Nat
  base : S
  vols : List VolD
  full : Bool
def PAt (w : World) (T : Nat → Tag) (A : Option Addr) (c : Nat) (p : S) : Prop :=
  (A = none → c = 0) ∧ p.length ≤ c ∧ (0 < p.length → ∃ g o cur, A = some ⟨g, o, none⟩ ∧ w.heap[g]? = some (.cells cur 5 (0, 0)) ∧ T g = .none ∧ ∀ j (hj : j < p.length), cur[o + j]? = some (Coin.b8 p[j]))
def itP (x : ItD × Option Addr × Nat) : List Value := [.int .u8 (x.1.k.toNat : Int), .slice x.2.1 x.1.p.length x.2.2, .int .i64 (x.1.a : Int), .int .i64 (x.1.b : Int)]
def LAt (w : World) (T : Nat → Tag) (v : Value) (its : List ItD) (gl : Option Nat) : Prop :=
  ∃ ds : List (ItD × Option Addr × Nat), ds.map (·.1) = its ∧ OwnO w 75 4 v its.length (ds.flatMap itP) gl ∧ (∀ g, gl = some g → T g = .none) ∧ ∀ x ∈ ds, PAt w T x.2.1 x.2.2 x.1.p
def volP (x : VolD × Value × Option Nat) : List Value := [.int .u64 (x.1.no : Int), .int .u64 (x.1.first : Int), x.2.1, .int .i64 (x.1.size : Int)]
def VsAt (lo : Nat) (w : World) (T : Nat → Tag) (v : Value) (vols : List VolD) (gv : Option Nat) : Prop :=
  ∃ vs : List (VolD × Value × Option Nat), vs.map (·.1) = vols ∧ OwnO w 60 4 v vols.length (vs.flatMap volP) gv ∧ (∀ g, gv = some g → T g = .none) ∧ (∀ x ∈ vs, LAt w T x.2.1 x.1.its x.2.2) ∧
    (vs.Pairwise (fun x y => x.2.2 = none ∨ x.2.2 ≠ y.2.2) ∧ (∀ g, gv = some g → lo ≤ g) ∧ ∀ x ∈ vs, ∀ g, x.2.2 = some g → lo ≤ g)
def cC (q : Nat) (c : CD) (bA : Option Addr) (bc : Nat) (vv : Value) : Array Value := #[.pointer (some ⟨q, 0, none⟩), .int .i64 (c.most : Int), .int .u64 (c.hF : Int), .int .u64 (c.hB : Int), .int .u64 (c.hU : Int), .slice bA c.base.length bc, vv, .bool c.full]
structure CAtV (lo : Nat) (w : World) (T : Nat → Tag) (p q : Nat) (c : CD) (bA : Option Addr) (bc : Nat) (vv : Value) (gv : Option Nat) : Prop where
  row : w.heap[p]? = some (.cells (cC q c bA bc vv) 82)
  tp : T p = .none
  ba : PAt w T bA bc c.base
  vs : VsAt lo w T vv c.vols gv
  lp : lo ≤ p
def CAt (lo : Nat) (w : World) (T : Nat → Tag) (p q : Nat) (c : CD) : Prop := ∃ bA bc vv gv, CAtV lo w T p q c bA bc vv gv
structure Kp (w : World) (T : Nat → Tag) (w' : World) (T' : Nat → Tag) : Prop where
  size : w.heap.size ≤ w'.heap.size
  block : ∀ b, b < w.heap.size → T b = .none → w'.heap[b]? = w.heap[b]? ∧ T' b = .none
  os : w'.os = w.os
  tape : w'.tape = w.tape
  output : w'.output = w.output
theorem kp_ext {w w' : World} {T T' : Nat → Tag} (h : Ext w T w' T') : Kp w T w' T' := ⟨h.size, fun b hb hn => ⟨h.block b hb hn, (h.tags b hb).trans hn⟩, h.os, h.tape, h.output⟩
theorem kp_below {w w' : World} (h : Below w.heap.size w w') (T : Nat → Tag) : Kp w T w' T := ⟨h.size, fun b hb hn => ⟨h.block b hb, hn⟩, h.os, h.tape, h.output⟩
theorem Kp.refl (w : World) (T : Nat → Tag) : Kp w T w T := ⟨Nat.le_refl _, fun _ _ h => ⟨rfl, h⟩, rfl, rfl, rfl⟩
theorem Kp.trans {a b c : World} {T U V : Nat → Tag} (h : Kp a T b U) (k : Kp b U c V) : Kp a T c V :=
  ⟨Nat.le_trans h.size k.size, fun i hi hn => by
    obtain ⟨h1, h2⟩ := h.block i hi hn
    obtain ⟨k1, k2⟩ := k.block i (Nat.lt_of_lt_of_le hi h.size) h2
    exact ⟨k1.trans h1, k2⟩, k.os.trans h.os, k.tape.trans h.tape, k.output.trans h.output⟩
theorem PAt.keep {w w' : World} {T T' : Nat → Tag} {A : Option Addr} {c : Nat} {p : S} (h : PAt w T A c p) (K : Kp w T w' T') : PAt w' T' A c p := by
  obtain ⟨h1, h2, h3⟩ := h
  refine ⟨h1, h2, fun h0 => ?_⟩
  obtain ⟨g, o, cur, e, k1, k2, k3⟩ := h3 h0
  obtain ⟨b1, b2⟩ := K.block g (Array.getElem?_eq_some_iff.1 k1).1 k2
  exact ⟨g, o, cur, e, b1.trans k1, b2, k3⟩
theorem LAt.keep {w w' : World} {T T' : Nat → Tag} {v : Value} {its : List ItD} {gl : Option Nat} (h : LAt w T v its gl) (K : Kp w T w' T') : LAt w' T' v its gl := by
  obtain ⟨ds, h1, h2, h3, h4⟩ := h
  exact ⟨ds, h1, h2.keep fun g hg => (K.block g (h2.lt g hg).1 (h3 g hg)).1, fun g hg => (K.block g (h2.lt g hg).1 (h3 g hg)).2, fun x hx => (h4 x hx).keep K⟩
theorem VsAt.keep {w w' : World} {T T' : Nat → Tag} {v : Value} {vols : List VolD} {gv : Option Nat} (h : VsAt lo w T v vols gv) (K : Kp w T w' T') : VsAt lo w' T' v vols gv := by
  obtain ⟨vs, h1, h2, h3, h4, h5⟩ := h
  exact ⟨vs, h1, h2.keep fun g hg => (K.block g (h2.lt g hg).1 (h3 g hg)).1, fun g hg => (K.block g (h2.lt g hg).1 (h3 g hg)).2, fun x hx => (h4 x hx).keep K, h5⟩
theorem CAtV.keep {w w' : World} {T T' : Nat → Tag} {p q : Nat} {c : CD} {bA : Option Addr} {bc : Nat} {vv : Value} {gv : Option Nat} (h : CAtV lo w T p q c bA bc vv gv) (K : Kp w T w' T') : CAtV lo w' T' p q c bA bc vv gv := by
  obtain ⟨b1, b2⟩ := K.block p (Array.getElem?_eq_some_iff.1 h.row).1 h.tp
  exact ⟨b1.trans h.row, b2, h.ba.keep K, h.vs.keep K, h.lp⟩
theorem CAt.keep {w w' : World} {T T' : Nat → Tag} {p q : Nat} {c : CD} (h : CAt lo w T p q c) (K : Kp w T w' T') : CAt lo w' T' p q c := by
  obtain ⟨bA, bc, vv, gv, h⟩ := h
  exact ⟨bA, bc, vv, gv, h.keep K⟩
def NotTy (w : World) (X : Nat) (t : TypeId) : Prop := ∀ cur, w.heap[X]? ≠ some (.cells cur t (0, 0))
theorem notTy {w : World} {X : Nat} {cur : Array Value} {s t : TypeId} (h : w.heap[X]? = some (.cells cur s (0, 0))) (hne : s ≠ t) : NotTy w X t := fun cur' e => by
  rw [h] at e
  injection e with e
  injection e with e1 e2
  exact hne e2
theorem PAt.grown {w w' : World} {T : Nat → Tag} {A : Option Addr} {c : Nat} {p : S} {X : Nat} (h : PAt w T A c p) (G : w.grownBy w' (some X)) (hX : NotTy w X 5) : PAt w' T A c p := by
  obtain ⟨h1, h2, h3⟩ := h
  refine ⟨h1, h2, fun h0 => ?_⟩
  obtain ⟨g, o, cur, e, k1, k2, k3⟩ := h3 h0
  exact ⟨g, o, cur, e, (G.block g (Array.getElem?_eq_some_iff.1 k1).1 (fun e => by injection e with e; rw [e] at k1; exact hX _ k1)).trans k1, k2, k3⟩
theorem LAt.grown {w w' : World} {T : Nat → Tag} {v : Value} {its : List ItD} {gl : Option Nat} {X : Nat} (h : LAt w T v its gl) (G : w.grownBy w' (some X)) (hX : NotTy w X 5) (hg : gl ≠ some X) : LAt w' T v its gl := by
  obtain ⟨ds, h1, h2, h3, h4⟩ := h
  exact ⟨ds, h1, h2.keep fun g e => G.block g (h2.lt g e).1 (fun e' => hg (by rw [e]; exact e')), h3, fun x hx => (h4 x hx).grown G hX⟩
theorem LAt.ne {w : World} {T : Nat → Tag} {v : Value} {its : List ItD} {gl : Option Nat} {X : Nat} (h : LAt w T v its gl) (hX : NotTy w X 75) : gl ≠ some X := fun e => by
  obtain ⟨ds, h1, h2, h3, h4⟩ := h
  obtain ⟨cur, hc⟩ := (h2.lt X e).2
  exact hX _ hc
theorem VsAt.grown {w w' : World} {T : Nat → Tag} {v : Value} {vols : List VolD} {gv : Option Nat} {X : Nat} (h : VsAt lo w T v vols gv) (G : w.grownBy w' (some X)) (h5 : NotTy w X 5) (h75 : NotTy w X 75) (h60 : NotTy w X 60) : VsAt lo w' T v vols gv := by
  obtain ⟨vs, h1, h2, h3, h4, h6⟩ := h
  exact ⟨vs, h1, h2.keep fun g e => G.block g (h2.lt g e).1 (fun e' => by injection e' with e'; subst e'; obtain ⟨cur, hc⟩ := (h2.lt g e).2; exact h60 _ hc), h3, fun x hx => (h4 x hx).grown G h5 ((h4 x hx).ne h75), h6⟩
theorem row8 {w : World} {b : Nat} {t : TypeId} {x0 x1 x2 x3 x4 x5 x6 x7 : Value} (h : w.heap[b]? = some (.cells #[x0, x1, x2, x3, x4, x5, x6, x7] t)) :
    w.cell? ⟨b, 0, none⟩ = some x0 ∧ w.cell? ⟨b, 1, none⟩ = some x1 ∧ w.cell? ⟨b, 2, none⟩ = some x2 ∧ w.cell? ⟨b, 3, none⟩ = some x3 ∧ w.cell? ⟨b, 4, none⟩ = some x4 ∧ w.cell? ⟨b, 5, none⟩ = some x5 ∧ w.cell? ⟨b, 6, none⟩ = some x6 ∧ w.cell? ⟨b, 7, none⟩ = some x7 ∧ ∀ i, w.frozen? ⟨b, i, none⟩ = false :=
  ⟨cell_of_row w b 0 _ t (0, 0) h, cell_of_row w b 1 _ t (0, 0) h, cell_of_row w b 2 _ t (0, 0) h, cell_of_row w b 3 _ t (0, 0) h, cell_of_row w b 4 _ t (0, 0) h, cell_of_row w b 5 _ t (0, 0) h, cell_of_row w b 6 _ t (0, 0) h, cell_of_row w b 7 _ t (0, 0) h, fun i => frozen_of_row w b i _ t h⟩
theorem CAtV.set {w : World} {T : Nat → Tag} {p q : Nat} {c : CD} {bA : Option Addr} {bc : Nat} {vv : Value} {gv : Option Nat} (h : CAtV lo w T p q c bA bc vv gv) (i : Nat) (u : Value) (c' : CD) (bA' : Option Addr) (bc' : Nat) (vv' : Value) (gv' : Option Nat)
    (e : (cC q c bA bc vv).setIfInBounds i u = cC q c' bA' bc' vv') (h1 : PAt w T bA' bc' c'.base) (h2 : VsAt lo w T vv' c'.vols gv') : CAtV lo (w.setCell ⟨p, i, none⟩ u) T p q c' bA' bc' vv' gv' := by
  have G := Shf.grown_set w p i u
  exact ⟨by rw [heap_setCell_same w p i _ 82 _ h.row, e], h.tp, h1.grown G (notTy h.row (by decide)), h2.grown G (notTy h.row (by decide)) (notTy h.row (by decide)) (notTy h.row (by decide)), h.lp⟩
theorem PAt.rd {w : World} {T : Nat → Tag} {A : Option Addr} {c : Nat} {p : S} (h : PAt w T A c p) : Rd w w.heap.size A p := fun h0 => by
  obtain ⟨g, o, cur, e, k1, k2, k3⟩ := h.2.2 h0
  refine ⟨_, e, (Array.getElem?_eq_some_iff.1 k1).1, fun j hj => ?_⟩
  rw [Addr.add_lit, cell_of_row w g (o + j) _ 5 (0, 0) k1]
  exact k3 j hj
end Go.Proofs.YtdbhgkbmbbjpdaaGreatDoor.Chr
