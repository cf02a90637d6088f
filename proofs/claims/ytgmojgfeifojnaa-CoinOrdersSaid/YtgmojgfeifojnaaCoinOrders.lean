/-
  'For every input the Go function milestonelaw03.CoinOrders returns true, and each argument reads behind the call as it read before.'
  Conditions: none but the row's own (linux/amd64, sizes of what is read within the address space).
-/
import Derived.Test.YtgmojgfeifojnaaRows
import Derived.WalkKit
import Derived.ProofKit
import Derived.OpenShut
import Derived.ShutString
import Derived.ChangeOld
import Derived.Below
import Derived.Lib.SmallJoins
import Derived.Lib.Hide
import Derived.Test.YtgmojgfeifojnaaPut
namespace Go.Proofs.Ytgmojgfeifojnaa.coinOrders
open Go.Proofs.Ytgmojgfeifojnaa.Coin
open Go.ChangeShapes Go.WideShapes Go.ChangeAt Go.RowKit
open Go.ChangeMaps (open_string shut_string)
set_option linter.unusedVariables false

theorem own : ownKnob Try.prog.godebug = none := by kernel_rfl
theorem laidOut : laidOutB Try.prog = true := by kernel_rfl

set_option maxHeartbeats 400000 in
theorem tail_any (a b : Nat) (near : Bool) (w : World) (ha : a < 18446744073709551616) (hb : b < 18446744073709551616) (x : Nat) (hx : x < 18446744073709551616) (hnear : near = true → IntKind.u64.wrap ((a : Int) + (x : Int) % 3) = b) (hfar : near = false → b = x) :
    Calls Try.prog 5 #[.int .u64 a, .int .u64 x, .bool near] w fun e w' => e = .returned (.bool true) ∧ Below w.heap.size w w' := by
  have c1 := put_any none 0 [] a w ha (by simp) (Rd.nil _ _ _)
  have c2 := fun W => put_any none 0 [] b W hb (by simp) (Rd.nil _ _ _)
  simp only [List.length_nil, Nat.zero_add, List.nil_append] at c1 c2
  have hless : Op.bytesLess (str (coin a)).toList (str (coin b)).toList = decide (a < b) := by rw [str_toList, str_toList, less_coin a b ha hb]
  have heq : ((str (coin a)).toList == (str (coin b)).toList) = ((a : Int) == b) := by
    rw [str_toList, str_toList, Bool.eq_iff_iff]; simp [coin_inj a b ha hb]; omega
  have la := (length_coin a).symm
  have lb := (length_coin b).symm
  generalize coin a = p at *
  generalize coin b = q at *
  have LA := Lib.hid la
  have LB := Lib.hid lb
  clear la lb
  cases near
  · obtain rfl := hfar rfl
    clear hnear hfar
    go_enter Try.func5, Try.ntmps5
    go_wp2_with fail
    refine c1.mono ?_
    rintro e w1 ⟨rfl, R1, B1⟩
    have v1 := conv_any R1.rd _ (sz a) LA.out
    clear c1
    go_wp2_with fail
    refine (c2 w1).mono ?_
    rintro e w2 ⟨rfl, R2, B2⟩
    have v2 := conv_any R2.rd _ (sz b) LB.out
    clear c2 v1
    go_wp2_with (go_at_call 9; refine (awake_any _).mono ?_; rintro e w3 ⟨rfl, B3⟩)
    all_goals (go_ret; refine ⟨ret_bool ?_, (B1.trans (B2.mono B1.size)).trans (B3.mono (B1.trans (B2.mono B1.size)).size)⟩; simp [*])
  · have e := hnear rfl
    clear hnear hfar
    go_enter Try.func5, Try.ntmps5
    go_wp2_with fail
    refine c1.mono ?_
    rintro e w1 ⟨rfl, R1, B1⟩
    have v1 := conv_any R1.rd _ (sz a) LA.out
    clear c1
    go_wp2_with fail
    refine (c2 w1).mono ?_
    rintro e w2 ⟨rfl, R2, B2⟩
    have v2 := conv_any R2.rd _ (sz b) LB.out
    clear c2 v1
    go_wp2_with (go_at_call 9; refine (awake_any _).mono ?_; rintro e w3 ⟨rfl, B3⟩)
    all_goals (go_ret; refine ⟨ret_bool ?_, (B1.trans (B2.mono B1.size)).trans (B3.mono (B1.trans (B2.mono B1.size)).size)⟩; simp [*])

theorem walk (a0 : Int) (a1 : Int) (a2 : Bool) (w : World) (w0 : (Lit.int .u64 a0).wf = true) (w1 : (Lit.int .u64 a1).wf = true) :
    Calls Try.prog 5 #[.int .u64 a0, .int .u64 a1, .bool a2] w fun e w' => e = .returned (.bool true) ∧ Below w.heap.size w w' := by
  have k0 := bounds_u64 w0
  have k1 := bounds_u64 w1
  clear w0 w1
  obtain ⟨a, rfl⟩ := Int.eq_ofNat_of_zero_le k0.1
  obtain ⟨x, rfl⟩ := Int.eq_ofNat_of_zero_le k1.1
  cases a2
  · exact tail_any a x false w (by omega) (by omega) x (by omega) (fun h => by cases h) (fun _ => rfl)
  · exact tail_any a ((a + x % 3) % 18446744073709551616) true w (by omega) (by omega) x (by omega) (fun _ => by rw [wrap_u64]; omega) (fun h => by cases h)

set_option maxRecDepth 100000 in
theorem lifted (os : Os) (started : os.Started) (H : Type) (enc : TypeId × Value → H) :
    ReturnsInHanded {} Try.checked os 5 .any (Rows.coinOrdersSpec.pre6 enc Try.prog Try.f5 Rows.coinOrdersRow.domain false) (Rows.coinOrdersSpec.post enc Try.prog Try.f5 false true false false) := by
  refine returnsInHanded_of_change (C := Try.checked) own started (by kernel_rfl) Try.func5
    (ChangeSpec.witness6 (enc := enc) (C := Try.checked) false ⟨#[], #[.int .u64 0, .int .u64 0, .bool false], []⟩ 8 (by kernel_rfl) (by kernel_rfl) (by kernel_rfl) (by kernel_rfl)) ?_
  intro W base args ds gs before hval0 hW hcnd _
  have hval : ∀ (j : Nat) t v, Try.f5.params[j]? = some t → args[j]? = some v → Value.okWide Try.prog W .any base t v := hval0
  have hW' := hW
  obtain ⟨p, q, hA0, hV, rfl, hfz, hnd⟩ := hW
  have hA : DataW.TrodAll enc Try.prog W 0 (fun _ => true) true Try.f5.params.toList args.toList ds p := hA0
  rw [Try.params5] at hA hval
  obtain ⟨v0, vs0, d0, ds0, p0, q0, hargs, rfl, rfl, h0, r0⟩ := trodAll_cons hA
  obtain ⟨v1, vs1, d1, ds1, p1, q1, rfl, rfl, rfl, h1, r1⟩ := trodAll_cons r0
  obtain ⟨v2, vs2, d2, ds2, p2, q2, rfl, rfl, rfl, h2, r2⟩ := trodAll_cons r1
  obtain ⟨rfl, rfl, rfl⟩ := trodAll_nil r2
  obtain rfl : args = #[v0, v1, v2] := by cases args; simp_all
  obtain ⟨rfl, rfl⟩ := trodVars_none hV
  obtain ⟨a0, rfl, rfl, rfl, w0⟩ := open_int Try.underlying22 (hval 0 22 v0 rfl rfl) h0
  obtain ⟨a1, rfl, rfl, rfl, w1⟩ := open_int Try.underlying22 (hval 1 22 v1 rfl rfl) h1
  obtain ⟨a2, rfl, rfl, rfl⟩ := open_bool Try.underlying4 (hval 2 4 v2 rfl rfl) h2
  clear hA0 hval0
  refine (walk a0 a1 a2 W w0 w1).mono fun e W' ⟨he, bel⟩ => ?_
  subst he
  exact ⟨_, rfl, _, _, _, [], _, [], hW', trodAll_mk1 (shut_bool Try.underlying4 _), (trodAll_cons_mk (shut_int Try.underlying22 w0) (trodAll_cons_mk (shut_int Try.underlying22 w1) (trodAll_cons_mk (shut_bool Try.underlying4 _) trodAll_mk0))), rfl, bel.frame _, fun h => by cases h⟩

theorem over : Rows.coinOrdersRow.holds Try.pinned (OpenSpec.ofChange Rows.coinOrdersSpec) :=
  OpenClaim.holds_of_wide 5 Try.f5 rfl rfl rfl rfl rfl rfl rfl ⟨rfl, rfl, rfl, rfl, rfl⟩ rfl rfl rfl rfl rfl (by kernel_rfl) Try.func5 (by kernel_rfl)
    (of_decide_eq_true (by kernel_rfl)) (by unfold Func.isWrapper; first | (rw [if_pos (by decide +kernel)]; kernel_rfl) | (rw [if_neg (by decide +kernel)]; exact ⟨rfl, rfl⟩))
    (fun os started H enc _ => lifted os started H enc)

theorem proved : Rows.CoinOrdersSaid := over
#print axioms proved
end Go.Proofs.Ytgmojgfeifojnaa.coinOrders
