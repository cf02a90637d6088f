/- The small functions of package table. -/
import Derived.Test.YtcgncecjbkpmkaaBs
namespace Go.Proofs.Ytcgncecjbkpmkaa.Tab
open Pre Ser
open Go.ChangeShapes Go.WideShapes Go.ChangeAt Go.RowKit
set_option maxRecDepth 4000

theorem row2 {w : World} {b : Nat} {t : TypeId} {x0 x1 : Value} (h : w.heap[b]? = some (.cells #[x0, x1] t (0, 0))) : w.cell? ⟨b, 0, none⟩ = some x0 ∧ w.cell? ⟨b, 1, none⟩ = some x1 :=
  ⟨cell_of_row w b 0 _ t (0, 0) h, cell_of_row w b 1 _ t (0, 0) h⟩
theorem mark_any (a n : Nat) (v m s : Int) (w : World) :
    Calls Try.prog 59 #[.agg #[.int .u32 (a : Int), .int .u8 (n : Int), .int .i64 v, .int .u16 m, .int .u16 s]] w fun e w' => e = .returned (.agg #[.int .u16 s, .int .u16 m]) ∧ Below w.heap.size w w' := by
  go_enter Try.func59, Try.ntmps59
  go_wp2
  exact bodyPost_ret (v := .agg #[.int .u16 s, .int .u16 m]) (by simp [results, go_sem]) rfl
    ⟨rfl, by first
      | exact (((Below.refl _ _).alloc (Nat.le_refl _) _).alloc (by simp) _)
      | exact ((((Below.refl _ _).alloc (Nat.le_refl _) _).alloc (by simp) _).setCell (by simp) _).setCell (by simp) _⟩
theorem find1_any (a n : Nat) (h : Bool) (a1 n1 v m s s2 m2 : Int) (b k : Nat) (w : World) :
    Calls Try.prog 45 #[.agg #[.int .u32 (a : Int), .int .u8 (n : Int), .bool h, .int .u32 a1, .int .u8 n1, .int .i64 v, .int .u16 m, .int .u16 s, .int .u16 s2, .int .u16 m2], .agg #[.int .u32 (b : Int), .int .u8 (k : Int)]] w
      fun e w' => e = .returned (.int .i64 (cmpP a n b k)) ∧ Below w.heap.size w w' := by
  go_enter Try.func45, Try.ntmps45
  go_wp2_with (first
    | (go_at_call 46; (with_reducible refine (compare_any a n b k _).mono ?_); rintro e w1 ⟨rfl, B1⟩))
  go_ret
  have h := B1.size
  exact ⟨rfl, (((Below.refl w.heap.size w).alloc (Nat.le_refl _) _).alloc (by simp) _).trans (B1.mono (by simp; omega))⟩
end Go.Proofs.Ytcgncecjbkpmkaa.Tab
