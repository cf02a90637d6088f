/-
  'For every input the Go function milestonelaw03.CoinFolds returns true, and each argument reads behind the call as it read before.'
  Conditions: none but the row's own (linux/amd64, sizes of what is read within the address space).
-/
import Derived.Test.YtgmojgfeifojnaaRows
import Derived.WalkKit
import Derived.ProofKit
import Derived.OpenShut
import Derived.ShutString
import Derived.ChangeOld
import Derived.Below
import Derived.Lib.SmallJoins
import Derived.Lib.Hide
import Derived.Test.YtgmojgfeifojnaaPut
namespace Go.Proofs.Ytgmojgfeifojnaa.coinFolds
open Go.Proofs.Ytgmojgfeifojnaa.Coin
open Go.ChangeShapes Go.WideShapes Go.ChangeAt Go.RowKit
open Go.ChangeMaps (open_string shut_string)
set_option linter.unusedVariables false

theorem own : ownKnob Try.prog.godebug = none := by kernel_rfl
theorem laidOut : laidOutB Try.prog = true := by kernel_rfl

theorem fold_neg (b : Nat) (h : b < 9223372036854775808) (w : World) : Calls Try.prog 15 #[.int .i64 (-(b : Int) - 1)] w fun e w' => e = .returned (.int .u64 ((b : Int) * 2 + 1)) ∧ w = w' := by
  have c := fold_any (-(b : Int) - 1) (by omega) (by omega) w
  rw [if_pos (by omega)] at c
  have e : -2 * (-(b : Int) - 1) - 1 = (b : Int) * 2 + 1 := by omega
  rwa [e] at c
theorem fold_pos (b : Nat) (h : b < 9223372036854775808) (w : World) : Calls Try.prog 15 #[.int .i64 (b : Int)] w fun e w' => e = .returned (.int .u64 ((b : Int) * 2)) ∧ w = w' := by
  have c := fold_any (b : Int) (by omega) (by omega) w
  rw [if_neg (by omega)] at c
  have e : 2 * (b : Int) = (b : Int) * 2 := by omega
  rwa [e] at c
theorem open_neg (b : Nat) (h : b < 9223372036854775808) (w : World) : Calls Try.prog 16 #[.int .u64 ((b : Int) * 2 + 1)] w fun e w' => e = .returned (.int .i64 (-(b : Int) - 1)) ∧ w = w' := by
  have c := open_any (b * 2 + 1) (by omega) w
  rw [if_pos (by omega)] at c
  have e : (b * 2 + 1) / 2 = b := by omega
  rw [e] at c
  have e2 : ((b * 2 + 1 : Nat) : Int) = (b : Int) * 2 + 1 := by omega
  rwa [e2] at c
theorem open_pos (b : Nat) (h : b < 9223372036854775808) (w : World) : Calls Try.prog 16 #[.int .u64 ((b : Int) * 2)] w fun e w' => e = .returned (.int .i64 (b : Int)) ∧ w = w' := by
  have c := open_any (b * 2) (by omega) w
  rw [if_neg (by omega)] at c
  have e : b * 2 / 2 = b := by omega
  rw [e] at c
  have e2 : ((b * 2 : Nat) : Int) = (b : Int) * 2 := by omega
  rwa [e2] at c

theorem walk (a0 : Int) (a1 : Int) (w : World) (w0 : (Lit.int .i64 a0).wf = true) (w1 : (Lit.int .u64 a1).wf = true) :
    Calls Try.prog 6 #[.int .i64 a0, .int .u64 a1] w fun e w' => e = .returned (.bool true) ∧ Below w.heap.size w w' := by
  have k0 := bounds_i64 w0
  have k1 := bounds_u64 w1
  clear w0 w1
  have ha : (∃ b : Nat, b < 9223372036854775808 ∧ a0 = -(b : Int) - 1) ∨ (∃ b : Nat, b < 9223372036854775808 ∧ a0 = b) := by
    by_cases h : a0 < 0
    · exact .inl ⟨(-a0 - 1).toNat, by omega, by omega⟩
    · exact .inr ⟨a0.toNat, by omega, by omega⟩
  have hc : (∃ b : Nat, b < 9223372036854775808 ∧ a1 = (b : Int) * 2 + 1) ∨ (∃ b : Nat, b < 9223372036854775808 ∧ a1 = (b : Int) * 2) := by
    by_cases h : a1 % 2 = 1
    · exact .inl ⟨(a1 / 2).toNat, by omega, by omega⟩
    · exact .inr ⟨(a1 / 2).toNat, by omega, by omega⟩
  clear k0 k1
  rcases ha with ⟨b, hb', rfl⟩ | ⟨b, hb', rfl⟩ <;> rcases hc with ⟨c, hc', rfl⟩ | ⟨c, hc', rfl⟩
  · go_enter Try.func6, Try.ntmps6
    go_wp2_with (go_at_call 9; refine (awake_any _).mono ?_; rintro e w' ⟨rfl, hb⟩)
    go_wp2_with fail
    refine (fold_neg b hb' _).mono ?_
    rintro e w2 ⟨rfl, rfl⟩
    go_wp2_with fail
    refine (open_neg b hb' _).mono ?_
    rintro e w2 ⟨rfl, rfl⟩
    go_wp2_with fail
    refine (open_neg c hc' _).mono ?_
    rintro e w2 ⟨rfl, rfl⟩
    go_wp2_with fail
    refine (fold_neg c hc' _).mono ?_
    rintro e w2 ⟨rfl, rfl⟩
    go_wp2
    go_ret
    exact ⟨rfl, hb⟩
  · go_enter Try.func6, Try.ntmps6
    go_wp2_with (go_at_call 9; refine (awake_any _).mono ?_; rintro e w' ⟨rfl, hb⟩)
    go_wp2_with fail
    refine (fold_neg b hb' _).mono ?_
    rintro e w2 ⟨rfl, rfl⟩
    go_wp2_with fail
    refine (open_neg b hb' _).mono ?_
    rintro e w2 ⟨rfl, rfl⟩
    go_wp2_with fail
    refine (open_pos c hc' _).mono ?_
    rintro e w2 ⟨rfl, rfl⟩
    go_wp2_with fail
    refine (fold_pos c hc' _).mono ?_
    rintro e w2 ⟨rfl, rfl⟩
    go_wp2
    go_ret
    exact ⟨rfl, hb⟩
  · go_enter Try.func6, Try.ntmps6
    go_wp2_with (go_at_call 9; refine (awake_any _).mono ?_; rintro e w' ⟨rfl, hb⟩)
    go_wp2_with fail
    refine (fold_pos b hb' _).mono ?_
    rintro e w2 ⟨rfl, rfl⟩
    go_wp2_with fail
    refine (open_pos b hb' _).mono ?_
    rintro e w2 ⟨rfl, rfl⟩
    go_wp2_with fail
    refine (open_neg c hc' _).mono ?_
    rintro e w2 ⟨rfl, rfl⟩
    go_wp2_with fail
    refine (fold_neg c hc' _).mono ?_
    rintro e w2 ⟨rfl, rfl⟩
    go_wp2
    go_ret
    exact ⟨rfl, hb⟩
  · go_enter Try.func6, Try.ntmps6
    go_wp2_with (go_at_call 9; refine (awake_any _).mono ?_; rintro e w' ⟨rfl, hb⟩)
    go_wp2_with fail
    refine (fold_pos b hb' _).mono ?_
    rintro e w2 ⟨rfl, rfl⟩
    go_wp2_with fail
    refine (open_pos b hb' _).mono ?_
    rintro e w2 ⟨rfl, rfl⟩
    go_wp2_with fail
    refine (open_pos c hc' _).mono ?_
    rintro e w2 ⟨rfl, rfl⟩
    go_wp2_with fail
    refine (fold_pos c hc' _).mono ?_
    rintro e w2 ⟨rfl, rfl⟩
    go_wp2
    go_ret
    exact ⟨rfl, hb⟩

set_option maxRecDepth 100000 in
theorem lifted (os : Os) (started : os.Started) (H : Type) (enc : TypeId × Value → H) :
    ReturnsInHanded {} Try.checked os 6 .any (Rows.coinFoldsSpec.pre6 enc Try.prog Try.f6 Rows.coinFoldsRow.domain false) (Rows.coinFoldsSpec.post enc Try.prog Try.f6 false true false false) := by
  refine returnsInHanded_of_change (C := Try.checked) own started (by kernel_rfl) Try.func6
    (ChangeSpec.witness6 (enc := enc) (C := Try.checked) false ⟨#[], #[.int .i64 0, .int .u64 0], []⟩ 8 (by kernel_rfl) (by kernel_rfl) (by kernel_rfl) (by kernel_rfl)) ?_
  intro W base args ds gs before hval0 hW hcnd _
  have hval : ∀ (j : Nat) t v, Try.f6.params[j]? = some t → args[j]? = some v → Value.okWide Try.prog W .any base t v := hval0
  have hW' := hW
  obtain ⟨p, q, hA0, hV, rfl, hfz, hnd⟩ := hW
  have hA : DataW.TrodAll enc Try.prog W 0 (fun _ => true) true Try.f6.params.toList args.toList ds p := hA0
  rw [Try.params6] at hA hval
  obtain ⟨v0, vs0, d0, ds0, p0, q0, hargs, rfl, rfl, h0, r0⟩ := trodAll_cons hA
  obtain ⟨v1, vs1, d1, ds1, p1, q1, rfl, rfl, rfl, h1, r1⟩ := trodAll_cons r0
  obtain ⟨rfl, rfl, rfl⟩ := trodAll_nil r1
  obtain rfl : args = #[v0, v1] := by cases args; simp_all
  obtain ⟨rfl, rfl⟩ := trodVars_none hV
  obtain ⟨a0, rfl, rfl, rfl, w0⟩ := open_int Try.underlying2 (hval 0 2 v0 rfl rfl) h0
  obtain ⟨a1, rfl, rfl, rfl, w1⟩ := open_int Try.underlying22 (hval 1 22 v1 rfl rfl) h1
  clear hA0 hval0
  refine (walk a0 a1 W w0 w1).mono fun e W' ⟨he, bel⟩ => ?_
  subst he
  exact ⟨_, rfl, _, _, _, [], _, [], hW', trodAll_mk1 (shut_bool Try.underlying4 _), (trodAll_cons_mk (shut_int Try.underlying2 w0) (trodAll_cons_mk (shut_int Try.underlying22 w1) trodAll_mk0)), rfl, bel.frame _, fun h => by cases h⟩

theorem over : Rows.coinFoldsRow.holds Try.pinned (OpenSpec.ofChange Rows.coinFoldsSpec) :=
  OpenClaim.holds_of_wide 6 Try.f6 rfl rfl rfl rfl rfl rfl rfl ⟨rfl, rfl, rfl, rfl, rfl⟩ rfl rfl rfl rfl rfl (by kernel_rfl) Try.func6 (by kernel_rfl)
    (of_decide_eq_true (by kernel_rfl)) (by unfold Func.isWrapper; first | (rw [if_pos (by decide +kernel)]; kernel_rfl) | (rw [if_neg (by decide +kernel)]; exact ⟨rfl, rfl⟩))
    (fun os started H enc _ => lifted os started H enc)

theorem proved : Rows.CoinFoldsSaid := over
#print axioms proved
end Go.Proofs.Ytgmojgfeifojnaa.coinFolds
