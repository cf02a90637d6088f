/- The document's Right, of a prefix. -/
import Derived.Test.YtecfblkagbdjlaaPFns
namespace Go.Proofs.Ytecfblkagbdjlaa.Pre
open Go.ChangeShapes Go.WideShapes Go.ChangeAt Go.RowKit

theorem rright_any (a n : Nat) (ha : a < 4294967296) (hn : n ≤ 255) (w : World) :
    Calls Try.prog 23 #[.agg #[.int .u32 a, .int .u8 n]] w fun e w' => e = .returned (.bool (right a n)) ∧ Below w.heap.size w w' := by
  by_cases h : n ≤ 32
  · have hrest : rest n = 32 - n := by unfold rest; omega
    go_enter Try.func23, Try.ntmps23
    go_wp2
    go_loop [3] (fun i => ∃ k : Nat, n ≤ k ∧ k ≤ 32 ∧ i = .int .i64 k ∧ (a % 2 ^ (32 - n) = 0 ↔ a % 2 ^ (32 - k) = 0)) (fun i => 32 - (intOf i).toNat)
    case atStart => exact ⟨n, by omega, by omega, rfl, Iff.rfl⟩
    case round =>
      obtain ⟨k, hk, hk2, rfl, hiff⟩ := hrel
      have HI := Lib.hid hiff
      have HR := Lib.hid hrest
      clear hiff hrest
      by_cases hlt : k < 32
      · cases hb : bit a k
        · go_wp2_with (go_at_call 32; refine (rbit_any a k ha (by omega) _).mono ?_; rintro e w' ⟨rfl, rfl⟩)
          go_round
          case rel => exact ⟨k + 1, by omega, by omega, by go_num, HI.out.trans ((mod_step a k hlt).trans ⟨fun h => h.2, fun h => ⟨hb, h⟩⟩)⟩
          case measure => simp [intOf]; omega
        · go_wp2_with (go_at_call 32; refine (rbit_any a k ha (by omega) _).mono ?_; rintro e w' ⟨rfl, rfl⟩)
          go_ret
          refine ⟨ret_bool ?_, (Below.refl _ _).alloc (Nat.le_refl _) _⟩
          have hno : ¬ a % 2 ^ (32 - n) = 0 := fun h0 => by
            have := (mod_step a k hlt).1 (HI.out.1 h0)
            rw [hb] at this; exact absurd this.1 (by decide)
          simp [right, HR.out, hno]
      · have e32 : 32 - k = 0 := by omega
        have hyes : a % 2 ^ (32 - n) = 0 := HI.out.2 (by rw [e32]; simp [Nat.mod_one])
        have HY := Lib.hid hyes
        clear hyes e32
        go_wp2
        go_ret
        exact ⟨ret_bool (by simp [right, HR.out, HY.out, h]), (Below.refl _ _).alloc (Nat.le_refl _) _⟩
  · go_enter Try.func23, Try.ntmps23
    go_wp2
    go_ret
    exact ⟨ret_bool (by simp [right, h]), (Below.refl _ _).alloc (Nat.le_refl _) _⟩

end Go.Proofs.Ytecfblkagbdjlaa.Pre
