/- The shortest way: cost, feasible, shortest. -/
import Derived.Test.YtkbhmdoichiinaaRu
namespace Go.Proofs.Ytkbhmdoichiinaa.Rts
open Pre Ser
open Go.Proofs.Ytkbhmdoichiinaa.Src (row1 row2)
open Go.ChangeShapes Go.WideShapes Go.ChangeAt Go.RowKit
set_option maxRecDepth 8000
set_option linter.unusedVariables false

open Go.Proofs.Ytkbhmdoichiinaa.Src (Mk SrcAt)
/-- What the ways to neighbors cost. -/
structure CostAt (w : World) (A : Option Addr) (n : Nat) (cf : Nat → Nat) : Prop where
  at_ : ∀ k, k < n → ∃ b o, A = some ⟨b, o, none⟩ ∧ b < w.heap.size ∧ w.cell? ⟨b, o + k, none⟩ = some (.int .u16 (cf k : Int))
  out : ∀ k, n ≤ k → cf k = 65535
  le : ∀ k, cf k ≤ 65535
theorem CostAt.below {w w' : World} {A : Option Addr} {n : Nat} {cf : Nat → Nat} (h : CostAt w A n cf) (B : Below w.heap.size w w') : CostAt w' A n cf :=
  ⟨fun k hk => by
    obtain ⟨b, o, e, hb, hc⟩ := h.at_ k hk
    exact ⟨b, o, e, Nat.lt_of_lt_of_le hb B.size, (World.cell?_of_block (a := ⟨b, o + k, none⟩) (B.block b hb)).trans hc⟩, h.out, h.le⟩
theorem CostAt.fr {X : Nat → Prop} {w w' : World} {A : Option Addr} {n : Nat} {cf : Nat → Nat} (h : CostAt w A n cf) (F : Fr X w w') (hx : ∀ b o, A = some ⟨b, o, none⟩ → ¬ X b) : CostAt w' A n cf :=
  ⟨fun k hk => by
    obtain ⟨b, o, e, hb, hc⟩ := h.at_ k hk
    exact ⟨b, o, e, Nat.lt_of_lt_of_le hb F.size, (World.cell?_of_block (a := ⟨b, o + k, none⟩) (F.block b hb (hx b o e))).trans hc⟩, h.out, h.le⟩
theorem cost_any (w : World) (A : Option Addr) (n c : Nat) (cf : Nat → Nat) (h : CostAt w A n cf) (x : Nat) : Calls Try.prog 56 #[.slice A n c, .int .i64 (x : Int)] w fun e w' => e = .returned (.int .u16 (cf x : Int)) ∧ w = w' := by
  by_cases hx : x < n
  · obtain ⟨b, o, rfl, hb, hc⟩ := h.at_ x hx
    have hx1 : ¬ (n : Int) ≤ (x : Int) := by omega
    generalize cf x = y at *
    clear h
    go_enter Try.func56, Try.ntmps56
    go_wp2
    go_ret
    exact ⟨rfl, rfl⟩
  · rw [h.out x (by omega)]
    have hx1 : (n : Int) ≤ (x : Int) := by omega
    clear h hx
    go_enter Try.func56, Try.ntmps56
    go_wp2
    go_ret
    exact ⟨rfl, rfl⟩
/-- Is what is told nearer than one ever was? -/
def feasE (f : Mk) (e : E) : Bool := f.feas e.a e.n (e.s, e.m)
theorem feasp_any (w : World) (ls qs cs sb : Nat) (f : Mk) (hs : SrcAt ls w qs f cs) (hb : w.heap[sb]? = some (.cells #[.pointer (some ⟨qs, 0, none⟩)] 46 (0, 0))) (e : E) (he : e.Ok) :
    Calls Try.prog 57 #[.agg #[.int .u32 (e.a : Int), .int .u8 (e.n : Int), .int .i64 (e.b : Int), .int .i64 (e.d : Int), .int .u16 (e.s : Int), .int .u16 (e.m : Int), .int .u64 (e.u : Int)], .pointer (some ⟨sb, 0, none⟩)] w fun en w' => en = .returned (.bool (feasE f e)) ∧ Below w.heap.size w w' := by
  have B1 := (Below.refl w.heap.size w).alloc (Nat.le_refl _) (.cells #[.int .u32 (e.a : Int), .int .u8 (e.n : Int), .int .i64 (e.b : Int), .int .i64 (e.d : Int), .int .u16 (e.s : Int), .int .u16 (e.m : Int), .int .u64 (e.u : Int)] 43)
  have c20 := Src.feas_any _ qs f cs (hs.below B1) e.a e.n he.a he.n (e.s, e.m)
  unfold Src.pv Src.mv at c20
  simp only at c20
  have HC := Lib.hid (And.intro c20 B1)
  have hsl := (Array.getElem?_eq_some_iff.1 hb).1
  obtain ⟨s0, -⟩ := row1 hb
  unfold feasE
  generalize f.feas e.a e.n (e.s, e.m) = fe at *
  clear c20 B1 hs hb he
  go_enter Try.func57, Try.ntmps57
  go_wp2_with (go_at_call 20; (with_reducible refine HC.out.1.mono ?_); rintro en w3 ⟨rfl, B3⟩; have H3 := Lib.hid (HC.out.2.trans (B3.mono HC.out.2.size)); clear B3)
  go_ret
  exact ⟨rfl, H3.out⟩
theorem feasible_any (w : World) (qs : Nat) : Calls Try.prog 36 #[.pointer (some ⟨qs, 0, none⟩)] w fun e w' => e = .returned (.func (.func 57) #[] #[.pointer (some ⟨w.heap.size, 0, none⟩)]) ∧ w' = w.alloc (.cells #[.pointer (some ⟨qs, 0, none⟩)] 46) := by
  go_enter Try.func36, Try.ntmps36
  go_wp2
  go_ret
  exact ⟨rfl, rfl⟩
/-- A route. -/
structure Ro where
  a : Nat
  n : Nat
  v : Nat
  m : Nat
  s : Nat
deriving DecidableEq
def Ro.zero : Ro := ⟨0, 0, 0, 0, 0⟩
def Ro.cl (r : Ro) : List Value := [.int .u32 (r.a : Int), .int .u8 (r.n : Int), .int .i64 (r.v : Int), .int .u16 (r.m : Int), .int .u16 (r.s : Int)]
/-- One more of what is told: the least so far, and its way. -/
def stp (cf : Nat → Nat) (f : Mk) (x : Nat × Ro) (e : E) : Nat × Ro := if e.m + cf e.b < x.1 ∧ feasE f e = true then (e.m + cf e.b, ⟨e.a, e.n, e.b, e.m + cf e.b, e.s⟩) else x
def short (cf : Nat → Nat) (f : Mk) (G : List E) : Nat × Ro := G.foldl (stp cf f) (65535, Ro.zero)
end Go.Proofs.Ytkbhmdoichiinaa.Rts
