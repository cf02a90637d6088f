/- Contracts: what is taken out of a purse; may a change be? -/
import Derived.Test.YtcgncecjbkpmkaaCn
namespace Go.Proofs.Ytcgncecjbkpmkaa.Chg
open Coin
open Go.ChangeShapes Go.WideShapes Go.ChangeAt Go.RowKit

theorem takeN_any (n : Nat) (hn : n < 18446744073709551616) (r : List UInt8) (w : World) (q : Nat) (h : Pur w q (coin n ++ r) 0) :
    Calls Try.prog 33 #[.pointer (some ⟨q, 0, none⟩), .int .u64 18446744073709551615] w fun e w' => e = .returned (.int .u64 n) ∧ Pur w' q r 0 ∧ w.grownBy w' (some q) := by
  have c := take_any w q (coin n ++ r) 0 18446744073709551615 h (by decide) (by decide)
  rw [take_coin n hn r] at c
  exact c
theorem right_cany (c : C) (h : c.Ok) (w : World) : Calls Try.prog 38 #[.agg c.cells] w fun e w' => e = .returned (.int .i64 0) ∧ Below w.heap.size w w' := by
  have c38 := fun W => Pre.right_any c.addr c.len h.2.2.1 (by have := h.2.2.2.1; omega) W
  rw [h.2.2.2.2.2.2.2.1] at c38
  have hz := h.2.2.2.2.2.2.2.2
  have hv := h.2.2.2.2.1
  have hm := h.2.2.2.2.2.1
  unfold C.cells
  obtain ⟨no, time, g, a, n, via, mt, sq⟩ := c
  replace hv : via < 16 := hv
  replace hm : mt < 65535 := hm
  replace hz : g = true → via = 0 ∧ mt = 0 ∧ sq = 0 := hz
  replace c38 : ∀ W, Calls Try.prog 55 #[.agg #[.int .u32 a, .int .u8 n]] W fun e w' => e = .returned (.bool true) ∧ Below W.heap.size W w' := c38
  have hv0 : ¬ (via : Int) < 0 := by omega
  have hv1 : ¬ (16 : Int) ≤ via := by omega
  have hm1 : ((mt : Int) == 65535) = false := by simp; omega
  have R0 : (w.alloc (.cells #[.int .u64 no, .int .u64 time, .bool g, .int .u32 a, .int .u8 n, .int .i64 via, .int .u16 mt, .int .u16 sq] 38)).heap[w.heap.size]? = _ := heap_alloc_new w _
  have B0 : Below w.heap.size w (w.alloc (.cells #[.int .u64 no, .int .u64 time, .bool g, .int .u32 a, .int .u8 n, .int .i64 via, .int .u16 mt, .int .u16 sq] 38)) := (Below.refl _ _).alloc (Nat.le_refl _) _
  have HR := Lib.hid (And.intro R0 B0)
  clear R0 B0
  cases g
  · clear hz
    go_enter Try.func38, Try.ntmps38
    go_wp2_with (first
      | (go_at_call 55; (with_reducible refine (c38 _).mono ?_); rintro e w1 ⟨rfl, B1⟩; clear c38; obtain ⟨p0, p1, p2, p3, p4, p5, p6, p7⟩ := row8 ((B1.block _ (by simp)).trans HR.out.1); have B2 := HR.out.2.trans (B1.mono HR.out.2.size)))
    go_ret
    exact ⟨rfl, B2⟩
  · obtain ⟨rfl, rfl, rfl⟩ := hz rfl
    clear hz
    have c39 := fun W => alone_any a n 0 0 0 W ⟨rfl, rfl, rfl⟩
    go_enter Try.func38, Try.ntmps38
    go_wp2_with (first
      | (go_at_call 55; (with_reducible refine (c38 _).mono ?_); rintro e w1 ⟨rfl, B1⟩; clear c38; have R1 := (B1.block _ (by simp)).trans HR.out.1; obtain ⟨p0, p1, p2, p3, p4, p5, p6, p7⟩ := row8 R1; have B2 := HR.out.2.trans (B1.mono HR.out.2.size))
      | (go_at_call 56; refine (c39 _).mono ?_; rintro e w3 ⟨rfl, B3⟩; clear c39 p0 p1 p2 p3 p4 p5 p6 p7; obtain ⟨p0, p1, p2, p3, p4, p5, p6, p7⟩ := row8 ((B3.block _ (Array.getElem?_eq_some_iff.1 R1).1).trans R1); have B4 := B2.trans (B3.mono B2.size)))
    go_ret
    exact ⟨rfl, B4⟩
end Go.Proofs.Ytcgncecjbkpmkaa.Chg
