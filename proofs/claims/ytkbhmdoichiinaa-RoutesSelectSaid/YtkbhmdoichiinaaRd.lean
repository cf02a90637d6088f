/- Frames; routes in memory; the order, and the search by it. -/
import Derived.Test.YtkbhmdoichiinaaRc
import Derived.Lib.Hide
import Derived.Deep.DeepCutAuto
import Derived.Deep.RegionHeld3
namespace Go.Proofs.Ytkbhmdoichiinaa.Rts
open Pre Ser
open Go.Proofs.Ytkbhmdoichiinaa.Src (row1 row2)
open Go.ChangeShapes Go.WideShapes Go.ChangeAt Go.RowKit
set_option maxRecDepth 8000

/-- All blocks but those are as they were. -/
structure Fr (X : Nat → Prop) (w w' : World) : Prop where
  os : w'.os = w.os
  tape : w'.tape = w.tape
  output : w'.output = w.output
  size : w.heap.size ≤ w'.heap.size
  block : ∀ k, k < w.heap.size → ¬ X k → w'.heap[k]? = w.heap[k]?
theorem Fr.refl (X : Nat → Prop) (w : World) : Fr X w w := ⟨rfl, rfl, rfl, Nat.le_refl _, fun _ _ _ => rfl⟩
theorem Fr.of {X : Nat → Prop} {w w' : World} (B : Below w.heap.size w w') : Fr X w w' := ⟨B.os, B.tape, B.output, B.size, fun k hk _ => B.block k hk⟩
theorem Fr.trans {X : Nat → Prop} {w u z : World} (h : Fr X w u) (h' : Fr X u z) : Fr X w z :=
  ⟨h'.os.trans h.os, h'.tape.trans h.tape, h'.output.trans h.output, Nat.le_trans h.size h'.size, fun k hk hx => (h'.block k (Nat.lt_of_lt_of_le hk h.size) hx).trans (h.block k hk hx)⟩
theorem Fr.mono {X Y : Nat → Prop} {w w' : World} (h : Fr X w w') (hx : ∀ k, k < w.heap.size → X k → Y k) : Fr Y w w' := ⟨h.os, h.tape, h.output, h.size, fun k hk hy => h.block k hk fun e => hy (hx k hk e)⟩
theorem Fr.step {X : Nat → Prop} {w u z : World} (h : Fr X w u) (B : Below u.heap.size u z) : Fr X w z := h.trans (Fr.of B)
theorem Fr.below {X : Nat → Prop} {w w' : World} {B : Nat} (h : Fr X w w') (hB : B ≤ w.heap.size) (hx : ∀ k, X k → B ≤ k) : Below B w w' :=
  ⟨h.os, h.tape, h.output, h.size, fun k hk => h.block k (Nat.lt_of_lt_of_le hk hB) fun e => absurd (hx k e) (by omega)⟩
theorem Fr.grown {X : Nat → Prop} {w w' : World} {b : Option Nat} (g : w.grownBy w' b) (hb : ∀ k, b = some k → X k) : Fr X w w' :=
  ⟨g.os, g.tape, g.output, g.size, fun k hk hx => g.block k hk fun e => hx (hb k e.symm)⟩
theorem Fr.row {X : Nat → Prop} {w w' : World} {k : Nat} {o : Obj} (h : Fr X w w') (hr : w.heap[k]? = some o) (hx : ¬ X k) : w'.heap[k]? = some o :=
  (h.block k (Array.getElem?_eq_some_iff.1 hr).1 hx).trans hr
theorem brow {w w' : World} {k : Nat} {o : Obj} (h : Below w.heap.size w w') (hr : w.heap[k]? = some o) : w'.heap[k]? = some o :=
  (h.block k (Array.getElem?_eq_some_iff.1 hr).1).trans hr
/-- Routes at block q: what is told is L, in the slice v. -/
structure RtsAt (lo : Nat) (w : World) (q : Nat) (L : List E) (v : Value) : Prop where
  row : w.heap[q]? = some (.cells #[v] 72 (0, 0))
  own : EOwn w lo v L
  ne : v.ownBlock ≠ some q
  le : lo ≤ q
theorem RtsAt.lt {lo : Nat} {w : World} {q : Nat} {L : List E} {v : Value} (h : RtsAt lo w q L v) : q < w.heap.size := (Array.getElem?_eq_some_iff.1 h.row).1
theorem EOwn.fr {w w' : World} {B : Nat} {v : Value} {es : List E} {X : Nat → Prop} (h : EOwn w B v es) (f : Fr X w w') (hx : ∀ b, v.ownBlock = some b → ¬ X b) : EOwn w' B v es := by
  rcases h with ⟨h0, h1 | ⟨g, cap, cur, hv, hB, hg, h2⟩⟩
  · exact ⟨h0, Or.inl h1⟩
  · exact ⟨h0, Or.inr ⟨g, cap, cur, hv, hB, f.row hg (hx g (by rw [hv]; rfl)), h2⟩⟩
theorem RtsAt.fr {lo : Nat} {w w' : World} {q : Nat} {L : List E} {v : Value} {X : Nat → Prop} (h : RtsAt lo w q L v) (f : Fr X w w') (hq : ¬ X q) (hx : ∀ b, v.ownBlock = some b → ¬ X b) : RtsAt lo w' q L v :=
  ⟨f.row h.row hq, h.own.fr f hx, h.ne, h.le⟩
theorem RtsAt.kept {lo : Nat} {w w' : World} {q : Nat} {L : List E} {v : Value} (h : RtsAt lo w q L v) (B : Below w.heap.size w w') : RtsAt lo w' q L v :=
  h.fr (X := fun _ => False) (Fr.of B) (fun h => h) (fun _ _ h => h)
/-- What a call on routes may turn. -/
def Xr (q : Nat) (v : Value) : Nat → Prop := fun k => k = q ∨ v.ownBlock = some k
/-- A later slice of routes: in the old block, or a new one. -/
def Later (w : World) (v v' : Value) : Prop := v'.ownBlock = v.ownBlock ∨ ∀ b, v'.ownBlock = some b → w.heap.size ≤ b
def E.val (e : E) : Value := .agg #[.int .u32 (e.a : Int), .int .u8 (e.n : Int), .int .i64 (e.b : Int), .int .i64 (e.d : Int), .int .u16 (e.s : Int), .int .u16 (e.m : Int), .int .u64 (e.u : Int)]

theorem nan_any (x : Int) (w : World) : Calls Try.prog 64 #[.int .i64 x] w fun e w' => e = .returned (.bool false) ∧ w = w' := by
  go_enter Try.func64, Try.ntmps64
  go_wp2
  go_ret
  exact ⟨Ser.ret_bool (by simp), rfl⟩
theorem cmpi_any (x y : Nat) (w : World) : Calls Try.prog 50 #[.int .i64 x, .int .i64 y] w fun e w' => e = .returned (.int .i64 (cmpV x y)) ∧ w = w' := by
  rcases Nat.lt_trichotomy x y with h | h | h
  · go_enter Try.func50, Try.ntmps50
    go_wp2_with (go_at_call 64; (with_reducible refine (nan_any _ _).mono ?_); rintro e w1 ⟨rfl, rfl⟩)
    go_ret
    exact ⟨Ser.ret_int (by simp [cmpV, h]), rfl⟩
  · subst h
    go_enter Try.func50, Try.ntmps50
    go_wp2_with (go_at_call 64; (with_reducible refine (nan_any _ _).mono ?_); rintro e w1 ⟨rfl, rfl⟩)
    go_ret
    exact ⟨Ser.ret_int (by simp [cmpV]), rfl⟩
  · have h2 : ¬ x < y := by omega
    go_enter Try.func50, Try.ntmps50
    go_wp2_with (go_at_call 64; (with_reducible refine (nan_any _ _).mono ?_); rintro e w1 ⟨rfl, rfl⟩)
    go_ret
    exact ⟨Ser.ret_int (by simp [cmpV, h, h2]), rfl⟩
def ordV (e : E) (a n b : Nat) : Int := orV (cmpP e.a e.n a n) (cmpV e.b b)
theorem ordV_lt {e : E} {a n b : Nat} (h1 : e.n < 256) (h2 : e.b < 16) (h3 : n < 256) (h4 : b < 16) : ordV e a n b < 0 ↔ e.key < key a n b := by
  unfold ordV cmpP orV cmpV E.key
  rw [key_lt h1 h2 h3 h4]
  constructor <;> intro h <;> (repeat' split at h) <;> (try (repeat' split)) <;> omega
theorem ordV_eq {e : E} {a n b : Nat} (h1 : e.n < 256) (h2 : e.b < 16) (h3 : n < 256) (h4 : b < 16) : ordV e a n b = 0 ↔ e.key = key a n b := by
  unfold ordV cmpP orV cmpV E.key
  rw [key_eq h1 h2 h3 h4]
  constructor <;> intro h <;> (repeat' split at h) <;> (try (repeat' split)) <;> omega
end Go.Proofs.Ytkbhmdoichiinaa.Rts
