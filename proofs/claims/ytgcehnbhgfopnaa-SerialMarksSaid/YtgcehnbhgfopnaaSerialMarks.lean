/-
  'For every input the Go function milestonelaw02.SerialMarks returns true, and each argument reads behind the call as it read before.'
  Conditions: none but the row's own (linux/amd64, sizes of what is read within the address space).
-/
import Derived.Test.YtgcehnbhgfopnaaRows
import Derived.WalkKit
import Derived.ProofKit
import Derived.OpenShut
import Derived.ShutString
import Derived.ChangeOld
import Derived.Below
import Derived.Lib.SmallJoins
import Derived.Lib.Hide
import Derived.Test.YtgcehnbhgfopnaaMk
import Derived.Lib.QuietBelow
namespace Go.Proofs.Ytgcehnbhgfopnaa.serialMarks
open Ser
open Go.Sort
open Go.ChangeShapes Go.WideShapes Go.ChangeAt Go.RowKit
open Go.ChangeMaps (open_string shut_string)
set_option linter.unusedVariables false

theorem own : ownKnob Try.prog.godebug = none := by kernel_rfl
theorem laidOut : laidOutB Try.prog = true := by kernel_rfl

theorem near_irr (s m : Int) : nearer s m s m = false := by
  unfold nearer; rw [newer_self]; simp
theorem near_asym (s m t n : Int) (hs : 0 ≤ s ∧ s ≤ 65535) (ht : 0 ≤ t ∧ t ≤ 65535) : nearer s m t n = true → nearer t n s m = false := by
  unfold nearer newer
  simp only [Bool.or_eq_true, Bool.and_eq_true, decide_eq_true_eq, beq_iff_eq, Bool.or_eq_false_iff, Bool.and_eq_false_iff, decide_eq_false_iff_not, beq_eq_false_iff_ne, ne_eq]
  omega
set_option maxHeartbeats 1000000 in
theorem inner_no_false (s m t n : Int) (ab : Bool) (b0 : 0 ≤ s ∧ s ≤ 65535) (b1 : 0 ≤ t ∧ t ≤ 65535) (hab : nearer s m t n = ab) (hba : nearer t n s m = false) (haa : nearer s m s m = false) (hord : (ab && false) = false) (w W : World)
    (c0 : W.cell? ⟨w.heap.size, 0, none⟩ = some (.int .u16 s)) (c1 : W.cell? ⟨w.heap.size, 1, none⟩ = some (.int .u16 m)) (c2 : W.cell? ⟨w.heap.size + 1, 0, none⟩ = some (.int .u16 t)) (c3 : W.cell? ⟨w.heap.size + 1, 1, none⟩ = some (.int .u16 n))
    (hW : Below w.heap.size w W) (hWe : ((w.alloc (.cells #[.int .u16 s, .int .u16 m] 31)).alloc (.cells #[.int .u16 t, .int .u16 n] 31)) = W) :
    Calls Try.prog 5 #[.agg #[.int .u16 s, .int .u16 m], .agg #[.int .u16 t, .int .u16 n], .bool false] w fun e w' => e = .returned (.bool true) ∧ Below w.heap.size w w' := by
  have k0 := cell_regrown c0
  have k1 := cell_regrown c1
  have k2 := cell_regrown c2
  have k3 := cell_regrown c3
  have cA : ∀ d os, Calls Try.prog 9 #[] (grow (redrawn W d) os) fun e w'' => e = .returned (.bool true) ∧ ∃ p : Regrown, w'' = grow (redrawn W p.d) p.os := fun d os => (awake_any _).mono fun e w' ⟨he, hw⟩ => ⟨he, ⟨d, os⟩, hw.symm⟩
  have cN : ∀ d os, Calls Try.prog 14 #[.agg #[.int .u16 s, .int .u16 m], .agg #[.int .u16 t, .int .u16 n]] (grow (redrawn W d) os) fun e w'' => e = .returned (.bool ab) ∧ ∃ p : Regrown, w'' = grow (redrawn W p.d) p.os := fun d os => Calls.regrown_of (nearer_eq _ _ _ _ hab _)
  have cM : ∀ d os, Calls Try.prog 14 #[.agg #[.int .u16 t, .int .u16 n], .agg #[.int .u16 s, .int .u16 m]] (grow (redrawn W d) os) fun e w'' => e = .returned (.bool false) ∧ ∃ p : Regrown, w'' = grow (redrawn W p.d) p.os := fun d os => Calls.regrown_of (nearer_eq _ _ _ _ hba _)
  have cS : ∀ d os, Calls Try.prog 14 #[.agg #[.int .u16 s, .int .u16 m], .agg #[.int .u16 s, .int .u16 m]] (grow (redrawn W d) os) fun e w'' => e = .returned (.bool false) ∧ ∃ p : Regrown, w'' = grow (redrawn W p.d) p.os := fun d os => Calls.regrown_of (nearer_eq _ _ _ _ haa _)
  have cR : ∀ d os, Calls Try.prog 15 #[.agg #[.int .u16 s, .int .u16 m], .agg #[.int .u16 t, .int .u16 n]] (grow (redrawn W d) os) fun e w'' => e = .returned (.bool ab) ∧ ∃ p : Regrown, w'' = grow (redrawn W p.d) p.os := fun d os => Calls.regrown_of (rnearer_eq _ _ _ _ b0 b1 hab _)
  have cB : ∀ d os, Calls Try.prog 16 #[.agg #[.int .u16 s, .int .u16 m], .agg #[.int .u16 t, .int .u16 n]] (grow (redrawn W d) os) fun e w'' => e = .returned (.agg #[.int .u16 s, .int .u16 m]) ∧ ∃ p : Regrown, w'' = grow (redrawn W p.d) p.os := fun d os => Calls.regrown_of (best_no _ _ _ _ hba _)
  have cC : ∀ d os, Calls Try.prog 16 #[.agg #[.int .u16 s, .int .u16 m], .agg #[.int .u16 s, .int .u16 m]] (grow (redrawn W d) os) fun e w'' => e = .returned (.agg #[.int .u16 s, .int .u16 m]) ∧ ∃ p : Regrown, w'' = grow (redrawn W p.d) p.os := fun d os => Calls.regrown_of (best_no _ _ _ _ haa _)
  have cD : ∀ d os, Calls Try.prog 17 #[.agg #[.int .u16 s, .int .u16 m], .agg #[.int .u16 t, .int .u16 n]] (grow (redrawn W d) os) fun e w'' => e = .returned (.agg #[.int .u16 s, .int .u16 m]) ∧ ∃ p : Regrown, w'' = grow (redrawn W p.d) p.os := fun d os => Calls.regrown_of (rbest_no _ _ _ _ b0 b1 hba _)
  have HW := Lib.hid hWe
  clear hWe c0 c1 c2 c3 hab hba haa b0 b1
  cases ab
  all_goals
    go_enter Try.func5, Try.ntmps5
    go_wp2
    rw [HW.out]
    refine wp_region_quiet_below (by kernel_rfl) (by kernel_rfl) ?_
    repeat (quiet_step (first | with_reducible exact cA _ _ | with_reducible exact cN _ _ | with_reducible exact cM _ _ | with_reducible exact cS _ _ | with_reducible exact cR _ _ | with_reducible exact cB _ _ | with_reducible exact cC _ _ | with_reducible exact cD _ _))
    refine wpQuiet_nil ?_
    intro _ hw'
    obtain ⟨⟨dq, osq⟩, hw''⟩ := hw'
    subst hw''
    go_wp2
    go_ret
    exact ⟨rfl, bstep hW (below_regrown W dq osq)⟩
theorem way_no_false (s m t n : Int) (ab : Bool) (b0 : 0 ≤ s ∧ s ≤ 65535) (b1 : 0 ≤ t ∧ t ≤ 65535) (hab : nearer s m t n = ab) (hba : nearer t n s m = false) (haa : nearer s m s m = false) (hord : (ab && false) = false) (w : World) :
    Calls Try.prog 5 #[.agg #[.int .u16 s, .int .u16 m], .agg #[.int .u16 t, .int .u16 n], .bool false] w fun e w' => e = .returned (.bool true) ∧ Below w.heap.size w w' :=
  inner_no_false s m t n ab b0 b1 hab hba haa hord w ((w.alloc (.cells #[.int .u16 s, .int .u16 m] 31)).alloc (.cells #[.int .u16 t, .int .u16 n] 31)) (by simp [go_sem]) (by simp [go_sem]) (by simp [go_sem]) (by simp [go_sem]) (((Below.refl _ _).alloc (Nat.le_refl _) _).alloc (by simp) _) rfl

set_option maxHeartbeats 1000000 in
theorem inner_no_true (s m t n : Int) (ab : Bool) (b0 : 0 ≤ s ∧ s ≤ 65535) (b1 : 0 ≤ t ∧ t ≤ 65535) (hab : nearer s m s n = ab) (hba : nearer s n s m = false) (haa : nearer s m s m = false) (hord : (ab && false) = false) (w W : World)
    (c0 : W.cell? ⟨w.heap.size, 0, none⟩ = some (.int .u16 s)) (c1 : W.cell? ⟨w.heap.size, 1, none⟩ = some (.int .u16 m)) (c2 : W.cell? ⟨w.heap.size + 1, 0, none⟩ = some (.int .u16 s)) (c3 : W.cell? ⟨w.heap.size + 1, 1, none⟩ = some (.int .u16 n))
    (hW : Below w.heap.size w W) (hWe : ((w.alloc (.cells #[.int .u16 s, .int .u16 m] 31)).alloc (.cells #[.int .u16 s, .int .u16 n] 31)) = W) :
    Calls Try.prog 5 #[.agg #[.int .u16 s, .int .u16 m], .agg #[.int .u16 t, .int .u16 n], .bool true] w fun e w' => e = .returned (.bool true) ∧ Below w.heap.size w w' := by
  have k0 := cell_regrown c0
  have k1 := cell_regrown c1
  have k2 := cell_regrown c2
  have k3 := cell_regrown c3
  have cA : ∀ d os, Calls Try.prog 9 #[] (grow (redrawn W d) os) fun e w'' => e = .returned (.bool true) ∧ ∃ p : Regrown, w'' = grow (redrawn W p.d) p.os := fun d os => (awake_any _).mono fun e w' ⟨he, hw⟩ => ⟨he, ⟨d, os⟩, hw.symm⟩
  have cN : ∀ d os, Calls Try.prog 14 #[.agg #[.int .u16 s, .int .u16 m], .agg #[.int .u16 s, .int .u16 n]] (grow (redrawn W d) os) fun e w'' => e = .returned (.bool ab) ∧ ∃ p : Regrown, w'' = grow (redrawn W p.d) p.os := fun d os => Calls.regrown_of (nearer_eq _ _ _ _ hab _)
  have cM : ∀ d os, Calls Try.prog 14 #[.agg #[.int .u16 s, .int .u16 n], .agg #[.int .u16 s, .int .u16 m]] (grow (redrawn W d) os) fun e w'' => e = .returned (.bool false) ∧ ∃ p : Regrown, w'' = grow (redrawn W p.d) p.os := fun d os => Calls.regrown_of (nearer_eq _ _ _ _ hba _)
  have cS : ∀ d os, Calls Try.prog 14 #[.agg #[.int .u16 s, .int .u16 m], .agg #[.int .u16 s, .int .u16 m]] (grow (redrawn W d) os) fun e w'' => e = .returned (.bool false) ∧ ∃ p : Regrown, w'' = grow (redrawn W p.d) p.os := fun d os => Calls.regrown_of (nearer_eq _ _ _ _ haa _)
  have cR : ∀ d os, Calls Try.prog 15 #[.agg #[.int .u16 s, .int .u16 m], .agg #[.int .u16 s, .int .u16 n]] (grow (redrawn W d) os) fun e w'' => e = .returned (.bool ab) ∧ ∃ p : Regrown, w'' = grow (redrawn W p.d) p.os := fun d os => Calls.regrown_of (rnearer_eq _ _ _ _ b0 b0 hab _)
  have cB : ∀ d os, Calls Try.prog 16 #[.agg #[.int .u16 s, .int .u16 m], .agg #[.int .u16 s, .int .u16 n]] (grow (redrawn W d) os) fun e w'' => e = .returned (.agg #[.int .u16 s, .int .u16 m]) ∧ ∃ p : Regrown, w'' = grow (redrawn W p.d) p.os := fun d os => Calls.regrown_of (best_no _ _ _ _ hba _)
  have cC : ∀ d os, Calls Try.prog 16 #[.agg #[.int .u16 s, .int .u16 m], .agg #[.int .u16 s, .int .u16 m]] (grow (redrawn W d) os) fun e w'' => e = .returned (.agg #[.int .u16 s, .int .u16 m]) ∧ ∃ p : Regrown, w'' = grow (redrawn W p.d) p.os := fun d os => Calls.regrown_of (best_no _ _ _ _ haa _)
  have cD : ∀ d os, Calls Try.prog 17 #[.agg #[.int .u16 s, .int .u16 m], .agg #[.int .u16 s, .int .u16 n]] (grow (redrawn W d) os) fun e w'' => e = .returned (.agg #[.int .u16 s, .int .u16 m]) ∧ ∃ p : Regrown, w'' = grow (redrawn W p.d) p.os := fun d os => Calls.regrown_of (rbest_no _ _ _ _ b0 b0 hba _)
  have HW := Lib.hid hWe
  clear hWe c0 c1 c2 c3 hab hba haa b0 b1
  cases ab
  all_goals
    go_enter Try.func5, Try.ntmps5
    go_wp2
    rw [HW.out]
    refine wp_region_quiet_below (by kernel_rfl) (by kernel_rfl) ?_
    repeat (quiet_step (first | with_reducible exact cA _ _ | with_reducible exact cN _ _ | with_reducible exact cM _ _ | with_reducible exact cS _ _ | with_reducible exact cR _ _ | with_reducible exact cB _ _ | with_reducible exact cC _ _ | with_reducible exact cD _ _))
    refine wpQuiet_nil ?_
    intro _ hw'
    obtain ⟨⟨dq, osq⟩, hw''⟩ := hw'
    subst hw''
    go_wp2
    go_ret
    exact ⟨rfl, bstep hW (below_regrown W dq osq)⟩
theorem way_no_true (s m t n : Int) (ab : Bool) (b0 : 0 ≤ s ∧ s ≤ 65535) (b1 : 0 ≤ t ∧ t ≤ 65535) (hab : nearer s m s n = ab) (hba : nearer s n s m = false) (haa : nearer s m s m = false) (hord : (ab && false) = false) (w : World) :
    Calls Try.prog 5 #[.agg #[.int .u16 s, .int .u16 m], .agg #[.int .u16 t, .int .u16 n], .bool true] w fun e w' => e = .returned (.bool true) ∧ Below w.heap.size w w' :=
  inner_no_true s m t n ab b0 b1 hab hba haa hord w ((w.alloc (.cells #[.int .u16 s, .int .u16 m] 31)).alloc (.cells #[.int .u16 s, .int .u16 n] 31)) (by simp [go_sem]) (by simp [go_sem]) (by simp [go_sem]) (by simp [go_sem]) (((Below.refl _ _).alloc (Nat.le_refl _) _).alloc (by simp) _) rfl

set_option maxHeartbeats 1000000 in
theorem inner_yes_false (s m t n : Int) (ab : Bool) (b0 : 0 ≤ s ∧ s ≤ 65535) (b1 : 0 ≤ t ∧ t ≤ 65535) (hab : nearer s m t n = ab) (hba : nearer t n s m = true) (haa : nearer s m s m = false) (hord : (ab && true) = false) (w W : World)
    (c0 : W.cell? ⟨w.heap.size, 0, none⟩ = some (.int .u16 s)) (c1 : W.cell? ⟨w.heap.size, 1, none⟩ = some (.int .u16 m)) (c2 : W.cell? ⟨w.heap.size + 1, 0, none⟩ = some (.int .u16 t)) (c3 : W.cell? ⟨w.heap.size + 1, 1, none⟩ = some (.int .u16 n))
    (hW : Below w.heap.size w W) (hWe : ((w.alloc (.cells #[.int .u16 s, .int .u16 m] 31)).alloc (.cells #[.int .u16 t, .int .u16 n] 31)) = W) :
    Calls Try.prog 5 #[.agg #[.int .u16 s, .int .u16 m], .agg #[.int .u16 t, .int .u16 n], .bool false] w fun e w' => e = .returned (.bool true) ∧ Below w.heap.size w w' := by
  have k0 := cell_regrown c0
  have k1 := cell_regrown c1
  have k2 := cell_regrown c2
  have k3 := cell_regrown c3
  have cA : ∀ d os, Calls Try.prog 9 #[] (grow (redrawn W d) os) fun e w'' => e = .returned (.bool true) ∧ ∃ p : Regrown, w'' = grow (redrawn W p.d) p.os := fun d os => (awake_any _).mono fun e w' ⟨he, hw⟩ => ⟨he, ⟨d, os⟩, hw.symm⟩
  have cN : ∀ d os, Calls Try.prog 14 #[.agg #[.int .u16 s, .int .u16 m], .agg #[.int .u16 t, .int .u16 n]] (grow (redrawn W d) os) fun e w'' => e = .returned (.bool ab) ∧ ∃ p : Regrown, w'' = grow (redrawn W p.d) p.os := fun d os => Calls.regrown_of (nearer_eq _ _ _ _ hab _)
  have cM : ∀ d os, Calls Try.prog 14 #[.agg #[.int .u16 t, .int .u16 n], .agg #[.int .u16 s, .int .u16 m]] (grow (redrawn W d) os) fun e w'' => e = .returned (.bool true) ∧ ∃ p : Regrown, w'' = grow (redrawn W p.d) p.os := fun d os => Calls.regrown_of (nearer_eq _ _ _ _ hba _)
  have cS : ∀ d os, Calls Try.prog 14 #[.agg #[.int .u16 s, .int .u16 m], .agg #[.int .u16 s, .int .u16 m]] (grow (redrawn W d) os) fun e w'' => e = .returned (.bool false) ∧ ∃ p : Regrown, w'' = grow (redrawn W p.d) p.os := fun d os => Calls.regrown_of (nearer_eq _ _ _ _ haa _)
  have cR : ∀ d os, Calls Try.prog 15 #[.agg #[.int .u16 s, .int .u16 m], .agg #[.int .u16 t, .int .u16 n]] (grow (redrawn W d) os) fun e w'' => e = .returned (.bool ab) ∧ ∃ p : Regrown, w'' = grow (redrawn W p.d) p.os := fun d os => Calls.regrown_of (rnearer_eq _ _ _ _ b0 b1 hab _)
  have cB : ∀ d os, Calls Try.prog 16 #[.agg #[.int .u16 s, .int .u16 m], .agg #[.int .u16 t, .int .u16 n]] (grow (redrawn W d) os) fun e w'' => e = .returned (.agg #[.int .u16 t, .int .u16 n]) ∧ ∃ p : Regrown, w'' = grow (redrawn W p.d) p.os := fun d os => Calls.regrown_of (best_yes _ _ _ _ hba _)
  have cC : ∀ d os, Calls Try.prog 16 #[.agg #[.int .u16 s, .int .u16 m], .agg #[.int .u16 s, .int .u16 m]] (grow (redrawn W d) os) fun e w'' => e = .returned (.agg #[.int .u16 s, .int .u16 m]) ∧ ∃ p : Regrown, w'' = grow (redrawn W p.d) p.os := fun d os => Calls.regrown_of (best_no _ _ _ _ haa _)
  have cD : ∀ d os, Calls Try.prog 17 #[.agg #[.int .u16 s, .int .u16 m], .agg #[.int .u16 t, .int .u16 n]] (grow (redrawn W d) os) fun e w'' => e = .returned (.agg #[.int .u16 t, .int .u16 n]) ∧ ∃ p : Regrown, w'' = grow (redrawn W p.d) p.os := fun d os => Calls.regrown_of (rbest_yes _ _ _ _ b0 b1 hba _)
  have HW := Lib.hid hWe
  clear hWe c0 c1 c2 c3 hab hba haa b0 b1
  obtain rfl : ab = false := by simpa using hord
  all_goals
    go_enter Try.func5, Try.ntmps5
    go_wp2
    rw [HW.out]
    refine wp_region_quiet_below (by kernel_rfl) (by kernel_rfl) ?_
    repeat (quiet_step (first | with_reducible exact cA _ _ | with_reducible exact cN _ _ | with_reducible exact cM _ _ | with_reducible exact cS _ _ | with_reducible exact cR _ _ | with_reducible exact cB _ _ | with_reducible exact cC _ _ | with_reducible exact cD _ _))
    refine wpQuiet_nil ?_
    intro _ hw'
    obtain ⟨⟨dq, osq⟩, hw''⟩ := hw'
    subst hw''
    go_wp2
    go_ret
    exact ⟨rfl, bstep hW (below_regrown W dq osq)⟩
theorem way_yes_false (s m t n : Int) (ab : Bool) (b0 : 0 ≤ s ∧ s ≤ 65535) (b1 : 0 ≤ t ∧ t ≤ 65535) (hab : nearer s m t n = ab) (hba : nearer t n s m = true) (haa : nearer s m s m = false) (hord : (ab && true) = false) (w : World) :
    Calls Try.prog 5 #[.agg #[.int .u16 s, .int .u16 m], .agg #[.int .u16 t, .int .u16 n], .bool false] w fun e w' => e = .returned (.bool true) ∧ Below w.heap.size w w' :=
  inner_yes_false s m t n ab b0 b1 hab hba haa hord w ((w.alloc (.cells #[.int .u16 s, .int .u16 m] 31)).alloc (.cells #[.int .u16 t, .int .u16 n] 31)) (by simp [go_sem]) (by simp [go_sem]) (by simp [go_sem]) (by simp [go_sem]) (((Below.refl _ _).alloc (Nat.le_refl _) _).alloc (by simp) _) rfl

set_option maxHeartbeats 1000000 in
theorem inner_yes_true (s m t n : Int) (ab : Bool) (b0 : 0 ≤ s ∧ s ≤ 65535) (b1 : 0 ≤ t ∧ t ≤ 65535) (hab : nearer s m s n = ab) (hba : nearer s n s m = true) (haa : nearer s m s m = false) (hord : (ab && true) = false) (w W : World)
    (c0 : W.cell? ⟨w.heap.size, 0, none⟩ = some (.int .u16 s)) (c1 : W.cell? ⟨w.heap.size, 1, none⟩ = some (.int .u16 m)) (c2 : W.cell? ⟨w.heap.size + 1, 0, none⟩ = some (.int .u16 s)) (c3 : W.cell? ⟨w.heap.size + 1, 1, none⟩ = some (.int .u16 n))
    (hW : Below w.heap.size w W) (hWe : ((w.alloc (.cells #[.int .u16 s, .int .u16 m] 31)).alloc (.cells #[.int .u16 s, .int .u16 n] 31)) = W) :
    Calls Try.prog 5 #[.agg #[.int .u16 s, .int .u16 m], .agg #[.int .u16 t, .int .u16 n], .bool true] w fun e w' => e = .returned (.bool true) ∧ Below w.heap.size w w' := by
  have k0 := cell_regrown c0
  have k1 := cell_regrown c1
  have k2 := cell_regrown c2
  have k3 := cell_regrown c3
  have cA : ∀ d os, Calls Try.prog 9 #[] (grow (redrawn W d) os) fun e w'' => e = .returned (.bool true) ∧ ∃ p : Regrown, w'' = grow (redrawn W p.d) p.os := fun d os => (awake_any _).mono fun e w' ⟨he, hw⟩ => ⟨he, ⟨d, os⟩, hw.symm⟩
  have cN : ∀ d os, Calls Try.prog 14 #[.agg #[.int .u16 s, .int .u16 m], .agg #[.int .u16 s, .int .u16 n]] (grow (redrawn W d) os) fun e w'' => e = .returned (.bool ab) ∧ ∃ p : Regrown, w'' = grow (redrawn W p.d) p.os := fun d os => Calls.regrown_of (nearer_eq _ _ _ _ hab _)
  have cM : ∀ d os, Calls Try.prog 14 #[.agg #[.int .u16 s, .int .u16 n], .agg #[.int .u16 s, .int .u16 m]] (grow (redrawn W d) os) fun e w'' => e = .returned (.bool true) ∧ ∃ p : Regrown, w'' = grow (redrawn W p.d) p.os := fun d os => Calls.regrown_of (nearer_eq _ _ _ _ hba _)
  have cS : ∀ d os, Calls Try.prog 14 #[.agg #[.int .u16 s, .int .u16 m], .agg #[.int .u16 s, .int .u16 m]] (grow (redrawn W d) os) fun e w'' => e = .returned (.bool false) ∧ ∃ p : Regrown, w'' = grow (redrawn W p.d) p.os := fun d os => Calls.regrown_of (nearer_eq _ _ _ _ haa _)
  have cR : ∀ d os, Calls Try.prog 15 #[.agg #[.int .u16 s, .int .u16 m], .agg #[.int .u16 s, .int .u16 n]] (grow (redrawn W d) os) fun e w'' => e = .returned (.bool ab) ∧ ∃ p : Regrown, w'' = grow (redrawn W p.d) p.os := fun d os => Calls.regrown_of (rnearer_eq _ _ _ _ b0 b0 hab _)
  have cB : ∀ d os, Calls Try.prog 16 #[.agg #[.int .u16 s, .int .u16 m], .agg #[.int .u16 s, .int .u16 n]] (grow (redrawn W d) os) fun e w'' => e = .returned (.agg #[.int .u16 s, .int .u16 n]) ∧ ∃ p : Regrown, w'' = grow (redrawn W p.d) p.os := fun d os => Calls.regrown_of (best_yes _ _ _ _ hba _)
  have cC : ∀ d os, Calls Try.prog 16 #[.agg #[.int .u16 s, .int .u16 m], .agg #[.int .u16 s, .int .u16 m]] (grow (redrawn W d) os) fun e w'' => e = .returned (.agg #[.int .u16 s, .int .u16 m]) ∧ ∃ p : Regrown, w'' = grow (redrawn W p.d) p.os := fun d os => Calls.regrown_of (best_no _ _ _ _ haa _)
  have cD : ∀ d os, Calls Try.prog 17 #[.agg #[.int .u16 s, .int .u16 m], .agg #[.int .u16 s, .int .u16 n]] (grow (redrawn W d) os) fun e w'' => e = .returned (.agg #[.int .u16 s, .int .u16 n]) ∧ ∃ p : Regrown, w'' = grow (redrawn W p.d) p.os := fun d os => Calls.regrown_of (rbest_yes _ _ _ _ b0 b0 hba _)
  have HW := Lib.hid hWe
  clear hWe c0 c1 c2 c3 hab hba haa b0 b1
  obtain rfl : ab = false := by simpa using hord
  all_goals
    go_enter Try.func5, Try.ntmps5
    go_wp2
    rw [HW.out]
    refine wp_region_quiet_below (by kernel_rfl) (by kernel_rfl) ?_
    repeat (quiet_step (first | with_reducible exact cA _ _ | with_reducible exact cN _ _ | with_reducible exact cM _ _ | with_reducible exact cS _ _ | with_reducible exact cR _ _ | with_reducible exact cB _ _ | with_reducible exact cC _ _ | with_reducible exact cD _ _))
    refine wpQuiet_nil ?_
    intro _ hw'
    obtain ⟨⟨dq, osq⟩, hw''⟩ := hw'
    subst hw''
    go_wp2
    go_ret
    exact ⟨rfl, bstep hW (below_regrown W dq osq)⟩
theorem way_yes_true (s m t n : Int) (ab : Bool) (b0 : 0 ≤ s ∧ s ≤ 65535) (b1 : 0 ≤ t ∧ t ≤ 65535) (hab : nearer s m s n = ab) (hba : nearer s n s m = true) (haa : nearer s m s m = false) (hord : (ab && true) = false) (w : World) :
    Calls Try.prog 5 #[.agg #[.int .u16 s, .int .u16 m], .agg #[.int .u16 t, .int .u16 n], .bool true] w fun e w' => e = .returned (.bool true) ∧ Below w.heap.size w w' :=
  inner_yes_true s m t n ab b0 b1 hab hba haa hord w ((w.alloc (.cells #[.int .u16 s, .int .u16 m] 31)).alloc (.cells #[.int .u16 s, .int .u16 n] 31)) (by simp [go_sem]) (by simp [go_sem]) (by simp [go_sem]) (by simp [go_sem]) (((Below.refl _ _).alloc (Nat.le_refl _) _).alloc (by simp) _) rfl

theorem walk (a0_0 a0_1 : Int) (a1_0 a1_1 : Int) (a2 : Bool) (w : World) (w0_0 : (Lit.int .u16 a0_0).wf = true) (w0_1 : (Lit.int .u16 a0_1).wf = true) (w1_0 : (Lit.int .u16 a1_0).wf = true) (w1_1 : (Lit.int .u16 a1_1).wf = true) :
    Calls Try.prog 5 #[.agg #[.int .u16 a0_0, .int .u16 a0_1], .agg #[.int .u16 a1_0, .int .u16 a1_1], .bool a2] w fun e w' => e = .returned (.bool true) ∧ Below w.heap.size w w' := by
  have b0 := bounds_u16 w0_0
  have b1 := bounds_u16 w1_0
  cases a2
  · cases hba : nearer a1_0 a1_1 a0_0 a0_1
    · exact way_no_false a0_0 a0_1 a1_0 a1_1 _ b0 b1 rfl hba (near_irr _ _) (by simp) w
    · exact way_yes_false a0_0 a0_1 a1_0 a1_1 _ b0 b1 rfl hba (near_irr _ _) (by rw [near_asym _ _ _ _ b1 b0 hba]; rfl) w
  · cases hba : nearer a0_0 a1_1 a0_0 a0_1
    · exact way_no_true a0_0 a0_1 a1_0 a1_1 _ b0 b1 rfl hba (near_irr _ _) (by simp) w
    · exact way_yes_true a0_0 a0_1 a1_0 a1_1 _ b0 b1 rfl hba (near_irr _ _) (by rw [near_asym _ _ _ _ b0 b0 hba]; rfl) w

set_option maxRecDepth 100000 in
theorem lifted (os : Os) (started : os.Started) (H : Type) (enc : TypeId × Value → H) :
    ReturnsInHanded {} Try.checked os 5 .any (Rows.serialMarksSpec.pre6 enc Try.prog Try.f5 Rows.serialMarksRow.domain false) (Rows.serialMarksSpec.post enc Try.prog Try.f5 false true false false) := by
  refine returnsInHanded_of_change (C := Try.checked) own started (by kernel_rfl) Try.func5
    (ChangeSpec.witness6 (enc := enc) (C := Try.checked) false ⟨#[], #[.agg #[.int .u16 0, .int .u16 0], .agg #[.int .u16 0, .int .u16 0], .bool false], []⟩ 8 (by kernel_rfl) (by kernel_rfl) (by kernel_rfl) (by kernel_rfl)) ?_
  intro W base args ds gs before hval0 hW hcnd _
  have hval : ∀ (j : Nat) t v, Try.f5.params[j]? = some t → args[j]? = some v → Value.okWide Try.prog W .any base t v := hval0
  have hW' := hW
  obtain ⟨p, q, hA0, hV, rfl, hfz, hnd⟩ := hW
  have hA : DataW.TrodAll enc Try.prog W 0 (fun _ => true) true Try.f5.params.toList args.toList ds p := hA0
  rw [Try.params5] at hA hval
  obtain ⟨v0, vs0, d0, ds0, p0, q0, hargs, rfl, rfl, h0, r0⟩ := trodAll_cons hA
  obtain ⟨v1, vs1, d1, ds1, p1, q1, rfl, rfl, rfl, h1, r1⟩ := trodAll_cons r0
  obtain ⟨v2, vs2, d2, ds2, p2, q2, rfl, rfl, rfl, h2, r2⟩ := trodAll_cons r1
  obtain ⟨rfl, rfl, rfl⟩ := trodAll_nil r2
  obtain rfl : args = #[v0, v1, v2] := by cases args; simp_all
  obtain ⟨rfl, rfl⟩ := trodVars_none hV
  have k0 := h0
  have lt0 : ∀ x ∈ p0, x.block < W.heap.size := by obtain ⟨m, hm⟩ := k0; exact DataW.trod_lt m _ _ _ hm
  obtain ⟨c0_0, c0_1, y0_0, y0_1, m0, rfl, hd0, hp0, hy0_0, hy0_1⟩ := Joins.open_agg2 Try.underlying31 (by kernel_rfl) (show Try.prog.cellsOf 31 = 2 by kernel_rfl) (hval 0 31 v0 rfl rfl) h0
  obtain ⟨a0_0, e0_0, _, w0_0⟩ := DataW.trod_int Try.underlying22 hy0_0
  simp only [List.cons.injEq, and_true] at e0_0
  subst e0_0
  obtain ⟨a0_1, e0_1, _, w0_1⟩ := DataW.trod_int Try.underlying22 hy0_1
  simp only [List.cons.injEq, and_true] at e0_1
  subst e0_1
  have k1 := h1
  have lt1 : ∀ x ∈ p1, x.block < W.heap.size := by obtain ⟨m, hm⟩ := k1; exact DataW.trod_lt m _ _ _ hm
  obtain ⟨c1_0, c1_1, y1_0, y1_1, m1, rfl, hd1, hp1, hy1_0, hy1_1⟩ := Joins.open_agg2 Try.underlying31 (by kernel_rfl) (show Try.prog.cellsOf 31 = 2 by kernel_rfl) (hval 1 31 v1 rfl rfl) h1
  obtain ⟨a1_0, e1_0, _, w1_0⟩ := DataW.trod_int Try.underlying22 hy1_0
  simp only [List.cons.injEq, and_true] at e1_0
  subst e1_0
  obtain ⟨a1_1, e1_1, _, w1_1⟩ := DataW.trod_int Try.underlying22 hy1_1
  simp only [List.cons.injEq, and_true] at e1_1
  subst e1_1
  obtain ⟨a2, rfl, rfl, rfl⟩ := open_bool Try.underlying4 (hval 2 4 v2 rfl rfl) h2
  clear hA0 hval0
  refine (walk a0_0 a0_1 a1_0 a1_1 a2 W w0_0 w0_1 w1_0 w1_1).mono fun e W' ⟨he, bel⟩ => ?_
  subst he
  exact ⟨_, rfl, _, _, _, [], _, [], hW', trodAll_mk1 (shut_bool Try.underlying4 _), (trodAll_cons_mk (Below.trod laidOut (by kernel_rfl) (of_decide_eq_true (by kernel_rfl)) k0 bel lt0) (trodAll_cons_mk (Below.trod laidOut (by kernel_rfl) (of_decide_eq_true (by kernel_rfl)) k1 bel lt1) (trodAll_cons_mk (shut_bool Try.underlying4 _) trodAll_mk0))), rfl, bel.frame _, fun h => by cases h⟩

theorem over : Rows.serialMarksRow.holds Try.pinned (OpenSpec.ofChange Rows.serialMarksSpec) :=
  OpenClaim.holds_of_wide 5 Try.f5 rfl rfl rfl rfl rfl rfl rfl ⟨rfl, rfl, rfl, rfl, rfl⟩ rfl rfl rfl rfl rfl (by kernel_rfl) Try.func5 (by kernel_rfl)
    (of_decide_eq_true (by kernel_rfl)) (by unfold Func.isWrapper; first | (rw [if_pos (by decide +kernel)]; kernel_rfl) | (rw [if_neg (by decide +kernel)]; exact ⟨rfl, rfl⟩))
    (fun os started H enc _ => lifted os started H enc)

theorem proved : Rows.SerialMarksSaid := over
#print axioms proved
end Go.Proofs.Ytgcehnbhgfopnaa.serialMarks
