/- The document's example, and Common's contract. -/
import Derived.Test.YtdfphpoakihkdaaDoorFns
namespace Go.Proofs.YtdfphpoakihkdaaDoor.Pre
open Go.ChangeShapes Go.WideShapes Go.ChangeAt Go.RowKit Go.Sort

theorem of_awake (w : World) : Calls Tryd.prog 10 #[.int .u32 167838211, .int .u8 16] w fun e w' => e = .returned (.agg #[.int .u32 167837696, .int .u8 16]) ∧ Below w.heap.size w w' := by
  have h := of_any 167838211 16 (by decide) (by decide) w
  rw [show top 167838211 16 = 167837696 by decide +kernel, show len 16 = 16 by decide] at h
  exact h

theorem text_awake : text 167837696 16 = [49, 48, 46, 49, 46, 48, 46, 48, 47, 49, 54] := by
  have e0 : Lib.decDigits 0 = [48] := by rw [Lib.decDigits]; simp
  have e1 : Lib.decDigits 1 = [49] := by rw [Lib.decDigits]; simp
  have e10 : Lib.decDigits 10 = [49, 48] := by rw [Lib.decDigits, Lib.decDigits]; simp
  have e16 : Lib.decDigits 16 = [49, 54] := by rw [Lib.decDigits, Lib.decDigits]; simp
  simp [text, pre, e0, e1, e10, e16]

theorem awake_any (w : World) (hp : Pow w) : Calls Tryd.prog 11 #[] w fun e w' => e = .returned (.bool true) ∧ Below w.heap.size w w' := by
  go_enter Tryd.func11, Tryd.ntmps11
  go_wp2_with (first
    | (go_at_call 10; refine (of_awake _).mono ?_; rintro e w1 ⟨rfl, hb⟩)
    | (go_at_call 23; refine (text_any 167837696 16 (by omega) (by omega) _ (pow_below hp hb (pow_size hp))).mono ?_; rintro e w2 ⟨rfl, hb2⟩; rw [text_awake]))
  go_ret
  exact ⟨rfl, bstep hb hb2⟩
end Go.Proofs.YtdfphpoakihkdaaDoor.Pre
