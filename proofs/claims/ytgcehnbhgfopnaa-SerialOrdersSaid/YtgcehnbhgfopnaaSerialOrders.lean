/-
  'For every input the Go function milestonelaw02.SerialOrders returns true, and each argument reads behind the call as it read before.'
  Conditions: none but the row's own (linux/amd64, sizes of what is read within the address space).
-/
import Derived.Test.YtgcehnbhgfopnaaRows
import Derived.WalkKit
import Derived.ProofKit
import Derived.OpenShut
import Derived.ShutString
import Derived.ChangeOld
import Derived.Below
import Derived.Lib.SmallJoins
import Derived.Lib.Hide
import Derived.Test.YtgcehnbhgfopnaaMk
namespace Go.Proofs.Ytgcehnbhgfopnaa.serialOrders
open Ser
open Go.ChangeShapes Go.WideShapes Go.ChangeAt Go.RowKit
open Go.ChangeMaps (open_string shut_string)
set_option linter.unusedVariables false

theorem own : ownKnob Try.prog.godebug = none := by kernel_rfl
theorem laidOut : laidOutB Try.prog = true := by kernel_rfl

theorem near_tr (s x y z a b c : Int) (hx : 0 ≤ x ∧ x < 16000) (hy : 0 ≤ y ∧ y < 16000) (hz : 0 ≤ z ∧ z < 16000) :
    nearer ((s + x) % 65536) a ((s + y) % 65536) b = true → nearer ((s + y) % 65536) b ((s + z) % 65536) c = true → nearer ((s + x) % 65536) a ((s + z) % 65536) c = true := by
  unfold nearer newer
  simp only [Bool.or_eq_true, Bool.and_eq_true, decide_eq_true_eq, beq_iff_eq]
  omega
theorem near_to (s x y a b : Int) (hx : 0 ≤ x ∧ x < 16000) (hy : 0 ≤ y ∧ y < 16000) :
    nearer ((s + x) % 65536) a ((s + y) % 65536) b = false → nearer ((s + y) % 65536) b ((s + x) % 65536) a = false → (s + x) % 65536 = (s + y) % 65536 ∧ a = b := by
  unfold nearer newer
  simp only [Bool.or_eq_false_iff, Bool.and_eq_false_iff, decide_eq_false_iff_not, beq_eq_false_iff_ne, ne_eq]
  omega

theorem walk (a0 : Int) (a1 : Int) (a2 : Int) (a3 : Int) (a4 : Int) (a5 : Int) (a6 : Int) (w : World) (w0 : (Lit.int .u16 a0).wf = true) (w1 : (Lit.int .u16 a1).wf = true) (w2 : (Lit.int .u16 a2).wf = true) (w3 : (Lit.int .u16 a3).wf = true) (w4 : (Lit.int .u16 a4).wf = true) (w5 : (Lit.int .u16 a5).wf = true) (w6 : (Lit.int .u16 a6).wf = true) :
    Calls Try.prog 6 #[.int .u16 a0, .int .u16 a1, .int .u16 a2, .int .u16 a3, .int .u16 a4, .int .u16 a5, .int .u16 a6] w fun e w' => e = .returned (.bool true) ∧ Below w.heap.size w w' := by
  have tr : nearer (IntKind.u16.wrap (a0 + a1 % 16000)) a4 (IntKind.u16.wrap (a0 + a2 % 16000)) a5 = true → nearer (IntKind.u16.wrap (a0 + a2 % 16000)) a5 (IntKind.u16.wrap (a0 + a3 % 16000)) a6 = true → nearer (IntKind.u16.wrap (a0 + a1 % 16000)) a4 (IntKind.u16.wrap (a0 + a3 % 16000)) a6 = true := by
    simp only [IntKind.wrap_u16]; exact near_tr _ _ _ _ _ _ _ (by omega) (by omega) (by omega)
  have to : nearer (IntKind.u16.wrap (a0 + a1 % 16000)) a4 (IntKind.u16.wrap (a0 + a2 % 16000)) a5 = false → nearer (IntKind.u16.wrap (a0 + a2 % 16000)) a5 (IntKind.u16.wrap (a0 + a1 % 16000)) a4 = false → (IntKind.u16.wrap (a0 + a1 % 16000)) = (IntKind.u16.wrap (a0 + a2 % 16000)) ∧ a4 = a5 := by
    simp only [IntKind.wrap_u16]; exact near_to _ _ _ _ _ (by omega) (by omega)
  have b0 := bounds_u16 w0
  have b1 := bounds_u16 w1
  have b2 := bounds_u16 w2
  have b3 := bounds_u16 w3
  have b4 := bounds_u16 w4
  have b5 := bounds_u16 w5
  have b6 := bounds_u16 w6
  clear w0 w1 w2 w3 w4 w5 w6
  cases h1 : nearer (IntKind.u16.wrap (a0 + a1 % 16000)) a4 (IntKind.u16.wrap (a0 + a2 % 16000)) a5
  · cases h2 : nearer (IntKind.u16.wrap (a0 + a2 % 16000)) a5 (IntKind.u16.wrap (a0 + a1 % 16000)) a4
    · obtain ⟨hp, ha⟩ := to h1 h2
      subst ha
      rw [hp] at h1 h2
      clear tr to h2
      go_enter Try.func6, Try.ntmps6
      go_wp2_with (first | (go_at_call 9; refine (awake_any _).mono ?_; rintro e w' ⟨rfl, rfl⟩) | (go_at_call 14; refine (nearer_any _ _ _ _ _).mono ?_; rintro e w' ⟨rfl, hb⟩; obtain ⟨hc, hf⟩ := bcell hb; have z1 : w.heap.size < w'.heap.size := lt_of_below hb (by first | assumption | (simp; done) | (simp; omega)); have z2 : w.heap.size + 1 < w'.heap.size := lt_of_below hb (by first | assumption | (simp; done) | (simp; omega)); have z3 : w.heap.size + 1 + 1 < w'.heap.size := lt_of_below hb (by first | assumption | (simp; done) | (simp; omega))))
      go_ret
      exact ⟨rfl, by (repeat (refine bstep ?_ (by with_reducible assumption))); exact (((Below.refl _ _).alloc (Nat.le_refl _) _).alloc (by simp) _).alloc (by simp; omega) _⟩
    · clear tr to
      go_enter Try.func6, Try.ntmps6
      go_wp2_with (first | (go_at_call 9; refine (awake_any _).mono ?_; rintro e w' ⟨rfl, rfl⟩) | (go_at_call 14; refine (nearer_any _ _ _ _ _).mono ?_; rintro e w' ⟨rfl, hb⟩; obtain ⟨hc, hf⟩ := bcell hb; have z1 : w.heap.size < w'.heap.size := lt_of_below hb (by first | assumption | (simp; done) | (simp; omega)); have z2 : w.heap.size + 1 < w'.heap.size := lt_of_below hb (by first | assumption | (simp; done) | (simp; omega)); have z3 : w.heap.size + 1 + 1 < w'.heap.size := lt_of_below hb (by first | assumption | (simp; done) | (simp; omega))))
      go_ret
      exact ⟨rfl, by (repeat (refine bstep ?_ (by with_reducible assumption))); exact (((Below.refl _ _).alloc (Nat.le_refl _) _).alloc (by simp) _).alloc (by simp; omega) _⟩
  · cases h2 : nearer (IntKind.u16.wrap (a0 + a2 % 16000)) a5 (IntKind.u16.wrap (a0 + a3 % 16000)) a6
    · clear tr to
      go_enter Try.func6, Try.ntmps6
      go_wp2_with (first | (go_at_call 9; refine (awake_any _).mono ?_; rintro e w' ⟨rfl, rfl⟩) | (go_at_call 14; refine (nearer_any _ _ _ _ _).mono ?_; rintro e w' ⟨rfl, hb⟩; obtain ⟨hc, hf⟩ := bcell hb; have z1 : w.heap.size < w'.heap.size := lt_of_below hb (by first | assumption | (simp; done) | (simp; omega)); have z2 : w.heap.size + 1 < w'.heap.size := lt_of_below hb (by first | assumption | (simp; done) | (simp; omega)); have z3 : w.heap.size + 1 + 1 < w'.heap.size := lt_of_below hb (by first | assumption | (simp; done) | (simp; omega))))
      go_ret
      exact ⟨rfl, by (repeat (refine bstep ?_ (by with_reducible assumption))); exact (((Below.refl _ _).alloc (Nat.le_refl _) _).alloc (by simp) _).alloc (by simp; omega) _⟩
    · have h3 := tr h1 h2
      clear tr to
      go_enter Try.func6, Try.ntmps6
      go_wp2_with (first | (go_at_call 9; refine (awake_any _).mono ?_; rintro e w' ⟨rfl, rfl⟩) | (go_at_call 14; refine (nearer_any _ _ _ _ _).mono ?_; rintro e w' ⟨rfl, hb⟩; obtain ⟨hc, hf⟩ := bcell hb; have z1 : w.heap.size < w'.heap.size := lt_of_below hb (by first | assumption | (simp; done) | (simp; omega)); have z2 : w.heap.size + 1 < w'.heap.size := lt_of_below hb (by first | assumption | (simp; done) | (simp; omega)); have z3 : w.heap.size + 1 + 1 < w'.heap.size := lt_of_below hb (by first | assumption | (simp; done) | (simp; omega))))
      go_ret
      exact ⟨rfl, by (repeat (refine bstep ?_ (by with_reducible assumption))); exact (((Below.refl _ _).alloc (Nat.le_refl _) _).alloc (by simp) _).alloc (by simp; omega) _⟩

set_option maxRecDepth 100000 in
theorem lifted (os : Os) (started : os.Started) (H : Type) (enc : TypeId × Value → H) :
    ReturnsInHanded {} Try.checked os 6 .any (Rows.serialOrdersSpec.pre6 enc Try.prog Try.f6 Rows.serialOrdersRow.domain false) (Rows.serialOrdersSpec.post enc Try.prog Try.f6 false true false false) := by
  refine returnsInHanded_of_change (C := Try.checked) own started (by kernel_rfl) Try.func6
    (ChangeSpec.witness6 (enc := enc) (C := Try.checked) false ⟨#[], #[.int .u16 0, .int .u16 0, .int .u16 0, .int .u16 0, .int .u16 0, .int .u16 0, .int .u16 0], []⟩ 8 (by kernel_rfl) (by kernel_rfl) (by kernel_rfl) (by kernel_rfl)) ?_
  intro W base args ds gs before hval0 hW hcnd _
  have hval : ∀ (j : Nat) t v, Try.f6.params[j]? = some t → args[j]? = some v → Value.okWide Try.prog W .any base t v := hval0
  have hW' := hW
  obtain ⟨p, q, hA0, hV, rfl, hfz, hnd⟩ := hW
  have hA : DataW.TrodAll enc Try.prog W 0 (fun _ => true) true Try.f6.params.toList args.toList ds p := hA0
  rw [Try.params6] at hA hval
  obtain ⟨v0, vs0, d0, ds0, p0, q0, hargs, rfl, rfl, h0, r0⟩ := trodAll_cons hA
  obtain ⟨v1, vs1, d1, ds1, p1, q1, rfl, rfl, rfl, h1, r1⟩ := trodAll_cons r0
  obtain ⟨v2, vs2, d2, ds2, p2, q2, rfl, rfl, rfl, h2, r2⟩ := trodAll_cons r1
  obtain ⟨v3, vs3, d3, ds3, p3, q3, rfl, rfl, rfl, h3, r3⟩ := trodAll_cons r2
  obtain ⟨v4, vs4, d4, ds4, p4, q4, rfl, rfl, rfl, h4, r4⟩ := trodAll_cons r3
  obtain ⟨v5, vs5, d5, ds5, p5, q5, rfl, rfl, rfl, h5, r5⟩ := trodAll_cons r4
  obtain ⟨v6, vs6, d6, ds6, p6, q6, rfl, rfl, rfl, h6, r6⟩ := trodAll_cons r5
  obtain ⟨rfl, rfl, rfl⟩ := trodAll_nil r6
  obtain rfl : args = #[v0, v1, v2, v3, v4, v5, v6] := by cases args; simp_all
  obtain ⟨rfl, rfl⟩ := trodVars_none hV
  obtain ⟨a0, rfl, rfl, rfl, w0⟩ := open_int Try.underlying22 (hval 0 22 v0 rfl rfl) h0
  obtain ⟨a1, rfl, rfl, rfl, w1⟩ := open_int Try.underlying22 (hval 1 22 v1 rfl rfl) h1
  obtain ⟨a2, rfl, rfl, rfl, w2⟩ := open_int Try.underlying22 (hval 2 22 v2 rfl rfl) h2
  obtain ⟨a3, rfl, rfl, rfl, w3⟩ := open_int Try.underlying22 (hval 3 22 v3 rfl rfl) h3
  obtain ⟨a4, rfl, rfl, rfl, w4⟩ := open_int Try.underlying22 (hval 4 22 v4 rfl rfl) h4
  obtain ⟨a5, rfl, rfl, rfl, w5⟩ := open_int Try.underlying22 (hval 5 22 v5 rfl rfl) h5
  obtain ⟨a6, rfl, rfl, rfl, w6⟩ := open_int Try.underlying22 (hval 6 22 v6 rfl rfl) h6
  clear hA0 hval0
  refine (walk a0 a1 a2 a3 a4 a5 a6 W w0 w1 w2 w3 w4 w5 w6).mono fun e W' ⟨he, bel⟩ => ?_
  subst he
  exact ⟨_, rfl, _, _, _, [], _, [], hW', trodAll_mk1 (shut_bool Try.underlying4 _), (trodAll_cons_mk (shut_int Try.underlying22 w0) (trodAll_cons_mk (shut_int Try.underlying22 w1) (trodAll_cons_mk (shut_int Try.underlying22 w2) (trodAll_cons_mk (shut_int Try.underlying22 w3) (trodAll_cons_mk (shut_int Try.underlying22 w4) (trodAll_cons_mk (shut_int Try.underlying22 w5) (trodAll_cons_mk (shut_int Try.underlying22 w6) trodAll_mk0))))))), rfl, bel.frame _, fun h => by cases h⟩

theorem over : Rows.serialOrdersRow.holds Try.pinned (OpenSpec.ofChange Rows.serialOrdersSpec) :=
  OpenClaim.holds_of_wide 6 Try.f6 rfl rfl rfl rfl rfl rfl rfl ⟨rfl, rfl, rfl, rfl, rfl⟩ rfl rfl rfl rfl rfl (by kernel_rfl) Try.func6 (by kernel_rfl)
    (of_decide_eq_true (by kernel_rfl)) (by unfold Func.isWrapper; first | (rw [if_pos (by decide +kernel)]; kernel_rfl) | (rw [if_neg (by decide +kernel)]; exact ⟨rfl, rfl⟩))
    (fun os started H enc _ => lifted os started H enc)

theorem proved : Rows.SerialOrdersSaid := over
#print axioms proved
end Go.Proofs.Ytgcehnbhgfopnaa.serialOrders
