/- The frame that some bytes are. -/
import Derived.Test.YtdbhgkbmbbjpdaaGreatDoorNb
import Derived.Deep.DeepCutAuto
import Derived.Deep.RegionHeld3
import Derived.OwnWalk
namespace Go.Proofs.YtdbhgkbmbbjpdaaGreatDoor.Chr
open Go.ChangeShapes Go.WideShapes Go.ChangeAt Go.RowKit
open Shf (S str)
open Coin (Rd Row Own sz coin got Pur takeV endV CoinSaid)
open Frm (pack err size kind cnt body noItem itemV OneSaid)
set_option maxRecDepth 8000
def whole (l : S) : Bool := decide (err l = 0 ∧ size l = l.length)
theorem put4 {w : World} {g : Nat} {t : TypeId} {x0 x1 x2 x3 : Value} (h : w.heap[g]? = some (.cells #[x0, x1, x2, x3] t)) (y0 y1 y2 y3 : Value) :
    ((((w.setCell ⟨g, 0, none⟩ y0).setCell ⟨g, 1, none⟩ y1).setCell ⟨g, 2, none⟩ y2).setCell ⟨g, 3, none⟩ y3).heap[g]? = some (.cells #[y0, y1, y2, y3] t) := by
  have e := heap_setCell_same _ g 3 _ t y3 (heap_setCell_same _ g 2 _ t y2 (heap_setCell_same _ g 1 _ t y1 (heap_setCell_same _ g 0 _ t y0 h)))
  rw [e]
  rfl
theorem set4_grown (w : World) (g : Nat) (y0 y1 y2 y3 : Value) : w.grownBy ((((w.setCell ⟨g, 0, none⟩ y0).setCell ⟨g, 1, none⟩ y1).setCell ⟨g, 2, none⟩ y2).setCell ⟨g, 3, none⟩ y3) (some g) :=
  (((Shf.grown_set w g 0 y0).trans (Shf.grown_set _ g 1 y1)).trans (Shf.grown_set _ g 2 y2)).trans (Shf.grown_set _ g 3 y3)
theorem body_len (l : S) (h : err l = 0) : (body l).length = cnt l := by
  have h1 := (Frm.err_ok l h).2.2.1
  unfold Frm.body
  rw [List.length_take, List.length_drop]
  unfold Frm.size at h1
  omega
theorem one0 {w : World} {l : S} {e : Ending} {w' : World} (h : OneSaid w l 0 e w') : ∃ (k n c a b er : Nat) (A : Option Addr), e = .returned (.tuple #[.agg #[.int .u8 (k : Int), .slice A n c, .int .i64 (a : Int), .int .i64 (b : Int)], .int .i64 (er : Int)]) ∧
    Hid (Below w.heap.size w w' ∧ k < 256 ∧ (A = none → c = 0) ∧ n ≤ c ∧ (n = 0 ∨ n = (body l).length) ∧ er = err l ∧ (er = 0 → b = size l ∧ k = (kind l).toNat ∧ n = (body l).length ∧ ∃ g, A = some ⟨g, 0, none⟩ ∧ w.heap.size ≤ g ∧ Row w' g (body l))) := by
  obtain ⟨h1, h2, h3⟩ := h
  by_cases h0 : err l = 0
  · obtain ⟨g, he, hr, hg⟩ := h2 h0
    have hb := body_len l h0
    refine ⟨(kind l).toNat, cnt l, cnt l, 0, size l, 0, some ⟨g, 0, none⟩, by rw [he]; unfold itemV; simp, h3, (kind l).toNat_lt, (fun h => by cases h), Nat.le_refl _, Or.inr hb.symm, h0.symm, fun _ => ⟨rfl, rfl, hb.symm, g, rfl, hg, hr⟩⟩
  · refine ⟨0, 0, 0, 0, 0, err l, none, by rw [h1 h0]; unfold noItem; rfl, h3, by decide, fun _ => rfl, Nat.le_refl _, Or.inl rfl, rfl, fun h => absurd h h0⟩
end Go.Proofs.YtdbhgkbmbbjpdaaGreatDoor.Chr
