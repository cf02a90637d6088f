/-
  'For every input the Go function milestonelaw07.ChangeShort returns true, and each argument reads behind the call as it read before.'
  Conditions: none but the row's own (linux/amd64, sizes of what is read within the address space).
-/
import Derived.Test.YtmkclggnbnomhaaRows
import Derived.WalkKit
import Derived.ProofKit
import Derived.OpenShut
import Derived.ShutString
import Derived.ChangeOld
import Derived.Below
import Derived.Lib.SmallJoins
import Derived.Lib.Hide
import Derived.Test.YtmkclggnbnomhaaCa
namespace Go.Proofs.Ytmkclggnbnomhaa.changeShort
open Chg
open Coin
open Go.ChangeShapes Go.WideShapes Go.ChangeAt Go.RowKit
open Go.ChangeMaps (open_string shut_string)
set_option linter.unusedVariables false

theorem own : ownKnob Try.prog.godebug = none := by kernel_rfl
theorem laidOut : laidOutB Try.prog = true := by kernel_rfl

set_option maxRecDepth 8000 in
set_option maxHeartbeats 2000000 in
theorem walk (a0 : Int) (a1 : Int) (a2 : Int) (a3 : Int) (w : World) (w0 : (Lit.int .u8 a0).wf = true) (w1 : (Lit.int .u8 a1).wf = true) (w2 : (Lit.int .u8 a2).wf = true) (w3 : (Lit.int .u8 a3).wf = true) :
    Calls Try.prog 4 #[.int .u8 a0, .int .u8 a1, .int .u8 a2, .int .u8 a3] w fun e w' => e = .returned (.bool true) ∧ Below w.heap.size w w' := by
  have k0 := bounds_u8 w0
  have k1 := bounds_u8 w1
  have k2 := bounds_u8 w2
  have k3 := bounds_u8 w3
  clear w0 w1 w2 w3
  obtain ⟨p, rfl⟩ := Int.eq_ofNat_of_zero_le k0.1
  obtain ⟨via, rfl⟩ := Int.eq_ofNat_of_zero_le k1.1
  obtain ⟨far, rfl⟩ := Int.eq_ofNat_of_zero_le k2.1
  obtain ⟨seq, rfl⟩ := Int.eq_ofNat_of_zero_le k3.1
  obtain ⟨a, k, ha, hk, hr, c12⟩ := prefix_any p (by omega)
  obtain ⟨v, hv, hv16⟩ : ∃ v : Nat, (via : Int) % 16 = v ∧ v < 16 := ⟨via % 16, by omega, by omega⟩
  obtain ⟨X, hX⟩ : ∃ X, X = C.enc ⟨1, 5, false, a, k, v, far, seq⟩ ⟨2, 6, false, a, k, v, far, seq⟩ := ⟨_, rfl⟩
  obtain ⟨Y, hY⟩ : ∃ Y, Y = C.enc ⟨1, 5, false, a, k, v, far, seq⟩ ⟨2, 5, true, a, k, 0, 0, 0⟩ := ⟨_, rfl⟩
  have ok1 : C.Ok ⟨1, 5, false, a, k, v, far, seq⟩ := ⟨show (1 : Nat) < 18446744073709551616 by decide, show (5 : Nat) < 18446744073709551616 by decide, ha, by show k ≤ 32; omega, hv16, by show far < 65535; omega, by show seq < 65536; omega, hr, fun h => by cases h⟩
  have ok2 : C.Ok ⟨2, 6, false, a, k, v, far, seq⟩ := ⟨show (2 : Nat) < 18446744073709551616 by decide, show (6 : Nat) < 18446744073709551616 by decide, ha, by show k ≤ 32; omega, hv16, by show far < 65535; omega, by show seq < 65536; omega, hr, fun h => by cases h⟩
  have ok3 : C.Ok ⟨2, 5, true, a, k, 0, 0, 0⟩ := ⟨show (2 : Nat) < 18446744073709551616 by decide, show (5 : Nat) < 18446744073709551616 by decide, ha, by show k ≤ 32; omega, show (0 : Nat) < 16 by decide, show (0 : Nat) < 65535 by decide, show (0 : Nat) < 65536 by decide, hr, fun _ => ⟨rfl, rfl, rfl⟩⟩
  have c9a : ∀ W, Calls Try.prog 9 #[.agg #[.int .u64 1, .int .u64 5, .bool false, .int .u32 a, .int .u8 k, .int .i64 v, .int .u16 far, .int .u16 seq], .agg #[.int .u64 2, .int .u64 6, .bool false, .int .u32 a, .int .u8 k, .int .i64 v, .int .u16 far, .int .u16 seq]] W (CoinOwn W X) := fun W => by
    have h := enc_any _ _ ok1 ok2 ⟨rfl, show (5 : Nat) ≤ 6 by decide⟩ W
    rw [← hX] at h
    exact h
  have c9b : ∀ W, Calls Try.prog 9 #[.agg #[.int .u64 1, .int .u64 5, .bool false, .int .u32 a, .int .u8 k, .int .i64 v, .int .u16 far, .int .u16 seq], .agg #[.int .u64 2, .int .u64 5, .bool true, .int .u32 a, .int .u8 k, .int .i64 0, .int .u16 0, .int .u16 0]] W (CoinOwn W Y) := fun W => by
    have h := enc_any _ _ ok1 ok3 ⟨rfl, show (5 : Nat) ≤ 5 by decide⟩ W
    rw [← hY] at h
    exact h
  have hX6 : X.length ≤ 6 := by
    have h1 := short_len ⟨1, 5, false, a, k, v, far, seq⟩ ⟨2, 6, false, a, k, v, far, seq⟩ rfl rfl (by show k ≤ 32; omega) (by show 6 - 5 < 128; omega)
    have h2 : (C.tail ⟨1, 5, false, a, k, v, far, seq⟩ ⟨2, 6, false, a, k, v, far, seq⟩).length = 3 := by
      have e1 : fold ((v : Int) - v) = 0 := by rw [show (v : Int) - v = 0 by omega]; rfl
      have e2 : fold ((far : Int) - far) = 0 := by rw [show (far : Int) - far = 0 by omega]; rfl
      have e3 : (seq + 65536 - seq) % 65536 = 0 := by omega
      show (coin (fold ((v : Int) - v)) ++ (coin (fold ((far : Int) - far)) ++ coin ((seq + 65536 - seq) % 65536))).length = 3
      rw [e1, e2, e3]; decide
    rw [hX]; omega
  have hY3 : Y.length ≤ 3 := by
    have h1 := short_len ⟨1, 5, false, a, k, v, far, seq⟩ ⟨2, 5, true, a, k, 0, 0, 0⟩ rfl rfl (by show k ≤ 32; omega) (by show 5 - 5 < 128; omega)
    have h2 : (C.tail ⟨1, 5, false, a, k, v, far, seq⟩ ⟨2, 5, true, a, k, 0, 0, 0⟩).length = 0 := rfl
    rw [hY]; omega
  clear ok1 ok2 ok3 hX hY
  go_enter Try.func4, Try.ntmps4
  go_wp2_with (first
    | (go_at_call 12; (with_reducible refine (c12 _).mono ?_); rintro e w1 ⟨rfl, B1⟩; clear c12; have HB := (Bx.new w1 #[.int .u64 1, .int .u64 5, .bool false, .int .u32 a, .int .u8 k, .int .i64 v, .int .u16 far, .int .u16 seq] #[.int .u64 2, .int .u64 6, .bool false, .int .u32 a, .int .u8 k, .int .i64 v, .int .u16 far, .int .u16 seq]).step ((Below.refl _ _).alloc (Nat.le_refl _) (.cells #[.int .u64 2, .int .u64 5, .bool true, .int .u32 a, .int .u8 k, .int .i64 0, .int .u16 0, .int .u16 0] 34)); have Z3 : (((w1.alloc (.cells #[.int .u64 1, .int .u64 5, .bool false, .int .u32 a, .int .u8 k, .int .i64 v, .int .u16 far, .int .u16 seq] 34)).alloc (.cells #[.int .u64 2, .int .u64 6, .bool false, .int .u32 a, .int .u8 k, .int .i64 v, .int .u16 far, .int .u16 seq] 34)).alloc (.cells #[.int .u64 2, .int .u64 5, .bool true, .int .u32 a, .int .u8 k, .int .i64 0, .int .u16 0, .int .u16 0] 34)).heap[w1.heap.size + 1 + 1]? = some (.cells #[.int .u64 2, .int .u64 5, .bool true, .int .u32 a, .int .u8 k, .int .i64 0, .int .u16 0, .int .u16 0] 34 (0, 0)) := (by have h := heap_alloc_new ((w1.alloc (.cells #[.int .u64 1, .int .u64 5, .bool false, .int .u32 a, .int .u8 k, .int .i64 v, .int .u16 far, .int .u16 seq] 34)).alloc (.cells #[.int .u64 2, .int .u64 6, .bool false, .int .u32 a, .int .u8 k, .int .i64 v, .int .u16 far, .int .u16 seq] 34)) (.cells #[.int .u64 2, .int .u64 5, .bool true, .int .u32 a, .int .u8 k, .int .i64 0, .int .u16 0, .int .u16 0] 34); have e : ((w1.alloc (.cells #[.int .u64 1, .int .u64 5, .bool false, .int .u32 a, .int .u8 k, .int .i64 v, .int .u16 far, .int .u16 seq] 34)).alloc (.cells #[.int .u64 2, .int .u64 6, .bool false, .int .u32 a, .int .u8 k, .int .i64 v, .int .u16 far, .int .u16 seq] 34)).heap.size = w1.heap.size + 1 + 1 := (by simp); rw [e] at h; exact h))
    | (go_at_call 7; (with_reducible refine (awake_any _).mono ?_); rintro e w2 ⟨rfl, B2⟩; have HB := HB.step B2; have Z2 := (B2.block _ (Array.getElem?_eq_some_iff.1 Z3).1).trans Z3; obtain ⟨p0, p1, p2, p3, p4, p5, p6, p7⟩ := row8 HB.r0; obtain ⟨q0, q1, q2, q3, q4, q5, q6, q7⟩ := row8 HB.r1; obtain ⟨z0, z1, z2, z3, z4, z5, z6, z7⟩ := row8 Z2)
    | (go_at_call 9; (with_reducible refine (c9a _).mono ?_); rintro e w3 ⟨v3, rfl, O3, B3⟩; clear c9a; clear p0 p1 p2 p3 p4 p5 p6 p7 q0 q1 q2 q3 q4 q5 q6 q7 z0 z1 z2 z3 z4 z5 z6 z7; have HB := HB.step B3; have Z4 := (B3.block _ (Array.getElem?_eq_some_iff.1 Z2).1).trans Z2; obtain ⟨p0, p1, p2, p3, p4, p5, p6, p7⟩ := row8 HB.r0; obtain ⟨q0, q1, q2, q3, q4, q5, q6, q7⟩ := row8 HB.r1; obtain ⟨z0, z1, z2, z3, z4, z5, z6, z7⟩ := row8 Z4; obtain ⟨A3, c3, hv3, _, _, _⟩ := O3.form; subst hv3; clear O3)
    | (go_at_call 9; (with_reducible refine (c9b _).mono ?_); rintro e w4 ⟨v4, rfl, O4, B4⟩; clear c9b; clear p0 p1 p2 p3 p4 p5 p6 p7 q0 q1 q2 q3 q4 q5 q6 q7 z0 z1 z2 z3 z4 z5 z6 z7; have HB := HB.step B4; obtain ⟨A4, c4, hv4, _, _, _⟩ := O4.form; subst hv4; clear O4)
    | fail)
  go_ret
  exact ⟨ret_bool (by simp; omega), B1.trans (HB.be.mono B1.size)⟩

set_option maxRecDepth 100000 in
theorem lifted (os : Os) (started : os.Started) (H : Type) (enc : TypeId × Value → H) :
    ReturnsInHanded {} Try.checked os 4 .any (Rows.changeShortSpec.pre6 enc Try.prog Try.f4 Rows.changeShortRow.domain false) (Rows.changeShortSpec.post enc Try.prog Try.f4 false true false false) := by
  refine returnsInHanded_of_change (C := Try.checked) own started (by kernel_rfl) Try.func4
    (ChangeSpec.witness6 (enc := enc) (C := Try.checked) false ⟨#[], #[.int .u8 0, .int .u8 0, .int .u8 0, .int .u8 0], []⟩ 8 (by kernel_rfl) (by kernel_rfl) (by kernel_rfl) (by kernel_rfl)) ?_
  intro W base args ds gs before hval0 hW hcnd _
  have hval : ∀ (j : Nat) t v, Try.f4.params[j]? = some t → args[j]? = some v → Value.okWide Try.prog W .any base t v := hval0
  have hW' := hW
  obtain ⟨p, q, hA0, hV, rfl, hfz, hnd⟩ := hW
  have hA : DataW.TrodAll enc Try.prog W 0 (fun _ => true) true Try.f4.params.toList args.toList ds p := hA0
  rw [Try.params4] at hA hval
  obtain ⟨v0, vs0, d0, ds0, p0, q0, hargs, rfl, rfl, h0, r0⟩ := trodAll_cons hA
  obtain ⟨v1, vs1, d1, ds1, p1, q1, rfl, rfl, rfl, h1, r1⟩ := trodAll_cons r0
  obtain ⟨v2, vs2, d2, ds2, p2, q2, rfl, rfl, rfl, h2, r2⟩ := trodAll_cons r1
  obtain ⟨v3, vs3, d3, ds3, p3, q3, rfl, rfl, rfl, h3, r3⟩ := trodAll_cons r2
  obtain ⟨rfl, rfl, rfl⟩ := trodAll_nil r3
  obtain rfl : args = #[v0, v1, v2, v3] := by cases args; simp_all
  obtain ⟨rfl, rfl⟩ := trodVars_none hV
  obtain ⟨a0, rfl, rfl, rfl, w0⟩ := open_int Try.underlying5 (hval 0 5 v0 rfl rfl) h0
  obtain ⟨a1, rfl, rfl, rfl, w1⟩ := open_int Try.underlying5 (hval 1 5 v1 rfl rfl) h1
  obtain ⟨a2, rfl, rfl, rfl, w2⟩ := open_int Try.underlying5 (hval 2 5 v2 rfl rfl) h2
  obtain ⟨a3, rfl, rfl, rfl, w3⟩ := open_int Try.underlying5 (hval 3 5 v3 rfl rfl) h3
  clear hA0 hval0
  refine (walk a0 a1 a2 a3 W w0 w1 w2 w3).mono fun e W' ⟨he, bel⟩ => ?_
  subst he
  exact ⟨_, rfl, _, _, _, [], _, [], hW', trodAll_mk1 (shut_bool Try.underlying4 _), (trodAll_cons_mk (shut_int Try.underlying5 w0) (trodAll_cons_mk (shut_int Try.underlying5 w1) (trodAll_cons_mk (shut_int Try.underlying5 w2) (trodAll_cons_mk (shut_int Try.underlying5 w3) trodAll_mk0)))), rfl, bel.frame _, fun h => by cases h⟩

theorem over : Rows.changeShortRow.holds Try.pinned (OpenSpec.ofChange Rows.changeShortSpec) :=
  OpenClaim.holds_of_wide 4 Try.f4 rfl rfl rfl rfl rfl rfl rfl ⟨rfl, rfl, rfl, rfl, rfl⟩ rfl rfl rfl rfl rfl (by kernel_rfl) Try.func4 (by kernel_rfl)
    (of_decide_eq_true (by kernel_rfl)) (by unfold Func.isWrapper; first | (rw [if_pos (by decide +kernel)]; kernel_rfl) | (rw [if_neg (by decide +kernel)]; exact ⟨rfl, rfl⟩))
    (fun os started H enc _ => lifted os started H enc)

theorem proved : Rows.ChangeShortSaid := over
#print axioms proved
end Go.Proofs.Ytmkclggnbnomhaa.changeShort
