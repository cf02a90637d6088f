/- Contracts of package serial's small functions, as they stand in the landed program. -/
import Derived.Test.YtgcehnbhgfopnaaRows
import Derived.WalkKit
import Derived.ProofKit
import Derived.OpenShut
import Derived.ShutString
namespace Go.Proofs.Ytgcehnbhgfopnaa.Ser
open Go.ChangeShapes Go.WideShapes Go.ChangeAt Go.RowKit

theorem ret_bool {a b : Bool} (h : a = b) : Ending.returned (.bool a) = .returned (.bool b) := by rw [h]
theorem ret_int {k : IntKind} {a b : Int} (h : a = b) : Ending.returned (.int k a) = .returned (.int k b) := by rw [h]

def newer (a b : Int) : Bool := decide (1 ≤ (a - b) % 65536 ∧ (a - b) % 65536 ≤ 32767)

theorem newer_any (a b : Int) (w : World) :
    Calls Try.prog 10 #[.int .u16 a, .int .u16 b] w fun e w' => e = .returned (.bool (newer a b)) ∧ w = w' := by
  go_enter Try.func10, Try.ntmps10
  go_wp2
  · go_ret
    refine ⟨ret_bool ?_, rfl⟩
    rename_i h
    simp only [IntKind.wrap_u16] at h ⊢
    unfold newer; rw [decide_eq_decide]; omega
  · go_ret
    refine ⟨ret_bool ?_, rfl⟩
    rename_i h
    simp only [IntKind.wrap_u16] at h ⊢
    unfold newer; symm; rw [decide_eq_false_iff_not]; omega

theorem rnewer_any (a b : Int) (ha : 0 ≤ a ∧ a ≤ 65535) (hb : 0 ≤ b ∧ b ≤ 65535) (w : World) :
    Calls Try.prog 11 #[.int .u16 a, .int .u16 b] w fun e w' => e = .returned (.bool (newer a b)) ∧ w = w' := by
  go_enter Try.func11, Try.ntmps11
  go_wp2
  · go_ret
    refine ⟨ret_bool ?_, rfl⟩
    unfold newer; rw [decide_eq_decide]; omega
  · go_ret
    refine ⟨ret_bool ?_, rfl⟩
    unfold newer; symm; rw [decide_eq_false_iff_not]; omega

theorem next_any (a n : Int) (w : World) :
    Calls Try.prog 12 #[.int .u16 a, .int .i64 n] w fun e w' => e = .returned (.int .u16 ((a + n) % 65536)) ∧ w = w' := by
  go_enter Try.func12, Try.ntmps12
  go_wp2
  go_ret
  refine ⟨ret_int ?_, rfl⟩
  simp only [IntKind.wrap_u16]; omega

def sum (a b : Int) : Int := if a + b ≤ 65535 then a + b else 65535

theorem sum_any (a b : Int) (ha : 0 ≤ a ∧ a ≤ 65535) (hb : 0 ≤ b ∧ b ≤ 65535) (w : World) :
    Calls Try.prog 18 #[.int .u16 a, .int .u16 b] w fun e w' => e = .returned (.int .u16 (sum a b)) ∧ w = w' := by
  go_enter Try.func18, Try.ntmps18
  go_wp2
  · go_ret
    exact ⟨ret_int (by unfold sum; rw [if_neg (by omega)]), rfl⟩
  · go_ret
    exact ⟨ret_int (by unfold sum; rw [if_pos (by omega)]), rfl⟩

theorem awake_any (w : World) :
    Calls Try.prog 9 #[] w fun e w' => e = .returned (.bool true) ∧ w = w' := by
  go_enter Try.func9, Try.ntmps9
  go_wp2
  all_goals (go_ret; exact ⟨rfl, rfl⟩)

theorem newer_tri (a b : Int) (ha : 0 ≤ a ∧ a ≤ 65535) (hb : 0 ≤ b ∧ b ≤ 65535) :
    (newer a b = true ∧ newer b a = false) ∨ (newer a b = false ∧ newer b a = true) ∨ (newer a b = false ∧ newer b a = false ∧ a = b) ∨ (newer a b = false ∧ newer b a = false ∧ a ≠ b ∧ (a - b) % 65536 = 32768) := by
  unfold newer; simp only [decide_eq_true_eq, decide_eq_false_iff_not]; omega
end Go.Proofs.Ytgcehnbhgfopnaa.Ser
