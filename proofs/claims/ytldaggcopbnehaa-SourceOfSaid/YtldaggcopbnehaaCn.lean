/- Contract: a change that follows another one, as bytes: the program's. -/
import Derived.Test.YtldaggcopbnehaaCs
namespace Go.Proofs.Ytldaggcopbnehaa.Chg
open Coin
open Go.ChangeShapes Go.WideShapes Go.ChangeAt Go.RowKit

/-- A change as a value, cell by cell. -/
def C.cells (c : C) : Array Value := #[.int .u64 c.no, .int .u64 c.time, .bool c.gone, .int .u32 c.addr, .int .u8 c.len, .int .i64 c.via, .int .u16 c.metric, .int .u16 c.seq]
/-- Two boxes, and all that was ahead of them. -/
structure Bx (w0 w : World) (x y : Array Value) : Prop where
  r0 : w.heap[w0.heap.size]? = some (.cells x 79 (0, 0))
  r1 : w.heap[w0.heap.size + 1]? = some (.cells y 79 (0, 0))
  be : Below w0.heap.size w0 w
theorem Bx.new (w : World) (x y : Array Value) : Bx w ((w.alloc (.cells x 79)).alloc (.cells y 79)) x y := by
  have h1 := heap_alloc_new w (.cells x 79)
  refine ⟨(heap_alloc_old _ _ (Array.getElem?_eq_some_iff.1 h1).1).trans h1, ?_, ((Below.refl _ _).alloc (Nat.le_refl _) _).alloc (by simp) _⟩
  have := heap_alloc_new (w.alloc (.cells x 79)) (.cells y 79)
  have e : (w.alloc (.cells x 79)).heap.size = w.heap.size + 1 := by simp
  rw [e] at this
  exact this
theorem Bx.step {w0 w w' : World} {x y : Array Value} (h : Bx w0 w x y) (B : Below w.heap.size w w') : Bx w0 w' x y :=
  ⟨(B.block _ (Array.getElem?_eq_some_iff.1 h.r0).1).trans h.r0, (B.block _ (Array.getElem?_eq_some_iff.1 h.r1).1).trans h.r1, h.be.trans (B.mono h.be.size)⟩
theorem row8 {w : World} {b : Nat} {t : TypeId} {x0 x1 x2 x3 x4 x5 x6 x7 : Value} (h : w.heap[b]? = some (.cells #[x0, x1, x2, x3, x4, x5, x6, x7] t (0, 0))) :
    w.cell? ⟨b, 0, none⟩ = some x0 ∧ w.cell? ⟨b, 1, none⟩ = some x1 ∧ w.cell? ⟨b, 2, none⟩ = some x2 ∧ w.cell? ⟨b, 3, none⟩ = some x3 ∧ w.cell? ⟨b, 4, none⟩ = some x4 ∧ w.cell? ⟨b, 5, none⟩ = some x5 ∧ w.cell? ⟨b, 6, none⟩ = some x6 ∧ w.cell? ⟨b, 7, none⟩ = some x7 :=
  ⟨cell_of_row w b 0 _ t (0, 0) h, cell_of_row w b 1 _ t (0, 0) h, cell_of_row w b 2 _ t (0, 0) h, cell_of_row w b 3 _ t (0, 0) h, cell_of_row w b 4 _ t (0, 0) h, cell_of_row w b 5 _ t (0, 0) h, cell_of_row w b 6 _ t (0, 0) h, cell_of_row w b 7 _ t (0, 0) h⟩
theorem row5 {w : World} {b : Nat} {t : TypeId} {x0 x1 x2 x3 x4 : Value} (h : w.heap[b]? = some (.cells #[x0, x1, x2, x3, x4] t (0, 0))) :
    w.cell? ⟨b, 0, none⟩ = some x0 ∧ w.cell? ⟨b, 1, none⟩ = some x1 ∧ w.cell? ⟨b, 2, none⟩ = some x2 ∧ w.cell? ⟨b, 3, none⟩ = some x3 ∧ w.cell? ⟨b, 4, none⟩ = some x4 :=
  ⟨cell_of_row w b 0 _ t (0, 0) h, cell_of_row w b 1 _ t (0, 0) h, cell_of_row w b 2 _ t (0, 0) h, cell_of_row w b 3 _ t (0, 0) h, cell_of_row w b 4 _ t (0, 0) h⟩
theorem Bx.grown {w0 w w' : World} {x y : Array Value} {g : Nat} (h : Bx w0 w x y) (G : w.grownBy w' (some g)) (hg : w0.heap.size + 1 < g) : Bx w0 w' x y :=
  ⟨(G.block _ (Array.getElem?_eq_some_iff.1 h.r0).1 (fun e => by injection e with e; omega)).trans h.r0, (G.block _ (Array.getElem?_eq_some_iff.1 h.r1).1 (fun e => by injection e with e; omega)).trans h.r1, h.be.grown G h.be.size (fun k e => by injection e with e; omega)⟩
theorem Bx.lt {w0 w : World} {x y : Array Value} (h : Bx w0 w x y) : w0.heap.size + 1 < w.heap.size := (Array.getElem?_eq_some_iff.1 h.r1).1
end Go.Proofs.Ytldaggcopbnehaa.Chg
