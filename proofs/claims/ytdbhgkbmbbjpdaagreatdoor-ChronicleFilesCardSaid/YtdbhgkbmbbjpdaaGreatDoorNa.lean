/- Names of files: numbers below a hundred as texts. -/
import Derived.Test.YtdbhgkbmbbjpdaaGreatDoorShelf
import Derived.Test.YtdbhgkbmbbjpdaaGreatDoorShz
import Derived.Test.YtdbhgkbmbbjpdaaGreatDoorShy
import Derived.Lib.ItoaNum
namespace Go.Proofs.YtdbhgkbmbbjpdaaGreatDoor.Chr
open Go.ChangeShapes Go.WideShapes Go.ChangeAt Go.RowKit
open Shf (S str)
set_option maxRecDepth 8000
def dec (n : Nat) : S := Lib.decDigits n
def vName (n : Nat) : S := [118, 46] ++ dec n
def bName (n : Nat) : S := [98, 46] ++ dec n
theorem fmt_any (w : World) (n : Nat) (h : n < 100) : Calls Tryz.prog 55 #[.int .u64 (n : Int), .int .i64 10] w fun e w' => e = .returned (.string (str (dec n))) ∧ w = w' := by
  have c108 := fun W => Tryz.internal_strconv_small n h W
  have h1 : (n : Int) < 100 := by omega
  have e : (⟨(Lib.decDigits n).toArray⟩ : ByteArray) = str (dec n) := rfl
  rw [e] at c108
  have c85 : Calls Tryz.prog 85 #[.int .u64 (n : Int), .int .i64 10] w fun e w' => e = .returned (.string (str (dec n))) ∧ w = w' := by
    go_enter Tryz.func85, Tryz.ntmps85
    go_wp2_with (go_at_call 108; (with_reducible refine (c108 _).mono ?_); rintro e w' ⟨rfl, rfl⟩)
    go_ret
    exact ⟨rfl, rfl⟩
  clear c108 h1 e
  go_enter Tryz.func55, Tryz.ntmps55
  go_wp2_with (go_at_call 85; (with_reducible refine c85.mono ?_); rintro e w' ⟨rfl, rfl⟩)
  go_ret
  exact ⟨rfl, rfl⟩
theorem dec_two : ∀ n : Fin 100, (dec n.val).length ≤ 2 ∧ 0 < (dec n.val).length := by decide +kernel
theorem str_add (a b : S) : str a ++ str b = str (a ++ b) := by
  apply ByteArray.ext
  simp [str]
theorem name_any (w : World) (n : Nat) (h : n < 100) : Calls Tryz.prog 26 #[.int .u64 (n : Int)] w fun e w' => e = .returned (.string (str (vName n))) ∧ w = w' := by
  have c55 := fmt_any w n h
  have h2 := (dec_two ⟨n, h⟩).1
  have hl : (str (dec n)).size ≤ 2 := by rw [show (str (dec n)).size = (dec n).length from rfl]; exact h2
  have e : (⟨#[118, 46]⟩ : ByteArray) ++ str (dec n) = str (vName n) := str_add [118, 46] (dec n)
  have hz : (⟨#[118, 46]⟩ : ByteArray).size = 2 := rfl
  have hs : ¬ 9223372036854775807 < (⟨#[118, 46]⟩ : ByteArray).size + (str (dec n)).size := by rw [hz]; omega
  clear h2 h
  generalize str (dec n) = x at *
  go_enter Tryz.func26, Tryz.ntmps26
  go_wp2_with (go_at_call 55; (with_reducible refine c55.mono ?_); rintro e w' ⟨rfl, rfl⟩)
  go_ret
  exact ⟨rfl, rfl⟩
theorem base_any (w : World) (n : Nat) (h : n < 100) : Calls Tryz.prog 33 #[.int .u64 (n : Int)] w fun e w' => e = .returned (.string (str (bName n))) ∧ w = w' := by
  have c55 := fmt_any w n h
  have h2 := (dec_two ⟨n, h⟩).1
  have hl : (str (dec n)).size ≤ 2 := by rw [show (str (dec n)).size = (dec n).length from rfl]; exact h2
  have e : (⟨#[98, 46]⟩ : ByteArray) ++ str (dec n) = str (bName n) := str_add [98, 46] (dec n)
  have hz : (⟨#[98, 46]⟩ : ByteArray).size = 2 := rfl
  have hs : ¬ 9223372036854775807 < (⟨#[98, 46]⟩ : ByteArray).size + (str (dec n)).size := by rw [hz]; omega
  clear h2 h
  generalize str (dec n) = x at *
  go_enter Tryz.func33, Tryz.ntmps33
  go_wp2_with (go_at_call 55; (with_reducible refine c55.mono ?_); rintro e w' ⟨rfl, rfl⟩)
  go_ret
  exact ⟨rfl, rfl⟩
end Go.Proofs.YtdbhgkbmbbjpdaaGreatDoor.Chr
