/-
  'For every input the Go function milestonelaw01.PrefixNests returns true, and each argument reads behind the call as it read before.'
  Conditions: none but the row's own (linux/amd64, sizes of what is read within the address space).
-/
import Derived.Test.YtdfphpoakihkdaaDoorRows
import Derived.WalkKit
import Derived.ProofKit
import Derived.OpenShut
import Derived.ShutString
import Derived.ChangeOld
import Derived.Below
import Derived.Lib.SmallJoins
import Derived.Lib.Hide
import Derived.Test.YtdfphpoakihkdaaDoorAw
import Derived.Test.YtdfphpoakihkdaaDoorCom
import Derived.Test.YtdfphpoakihkdaaDoorLaid
import Derived.Test.YtdfphpoakihkdaaDoorCards
import Derived.Test.YtdfphpoakihkdaaDoorTie
import Derived.SevenTiedAt
namespace Go.Proofs.YtdfphpoakihkdaaDoor.prefixNests
open Pre
open Go.Sort
open Go.ChangeShapes Go.WideShapes Go.ChangeAt Go.RowKit
open Go.ChangeMaps (open_string shut_string)
set_option linter.unusedVariables false

theorem own : ownKnob Tryd.prog.godebug = none := by kernel_rfl
theorem laidOut : laidOutB Tryd.prog = true := by kernel_rfl

theorem top_lo (a n k : Nat) (h : len k ≤ len n) : top a n / 2 ^ rest k = a / 2 ^ rest k := by
  have e : rest k = rest n + (len n - len k) := by unfold rest len at *; omega
  rw [e, Nat.pow_add, ← Nat.div_div_eq_div_mul, ← Nat.div_div_eq_div_mul, top_div]
theorem nest1 (a n m : Nat) (h : len m ≤ len n) : alike (top a m) (top a n) (len m) = true := by
  unfold alike; rw [rest_len, top_lo a n m h, top_div]; simp
theorem alike_lo (r p n m : Nat) (h : len m ≤ len n) (hr : alike p r (len n) = true) : p / 2 ^ rest m = r / 2 ^ rest m := by
  unfold alike at hr; rw [rest_len] at hr
  have hr' : p / 2 ^ rest n = r / 2 ^ rest n := by simpa using hr
  have e : rest m = rest n + (len n - len m) := by unfold rest len at *; omega
  rw [e, Nat.pow_add, ← Nat.div_div_eq_div_mul, ← Nat.div_div_eq_div_mul, hr']
theorem nest2 (a n m r k : Nat) (h : len m ≤ len n) (hw : within r k (top a n) (len n) = true) : within r k (top a m) (len m) = true := by
  unfold within at hw ⊢
  simp only [Bool.and_eq_true, decide_eq_true_eq] at hw ⊢
  refine ⟨by omega, ?_⟩
  have h1 := alike_lo r (top a n) n m h hw.2
  unfold alike; rw [rest_len, top_div, ← h1, top_lo a n m h]; simp
theorem nest3 (a n m : Nat) (ha : a < 4294967296) : comm (top a n) (len n) (top a m) (len m) = min (len n) (len m) := by
  refine comm_eq _ _ _ _ _ (top_lt ha) (top_lt ha) (len_le n) (len_le m) (by omega) (by omega) ?_ (by omega)
  rcases Nat.le_total (len n) (len m) with h | h
  · rw [Nat.min_eq_left h, show 32 - len n = rest n by unfold rest len; omega, top_div, top_lo a m n h]
  · rw [Nat.min_eq_right h, show 32 - len m = rest m by unfold rest len; omega, top_div, top_lo a n m h]

set_option maxHeartbeats 4000000 in
theorem walk (a0 : Int) (a1 : Int) (a2 : Int) (a3 : Int) (a4 : Int) (w : World) (w0 : (Lit.int .u32 a0).wf = true) (w1 : (Lit.int .u32 a1).wf = true) (w2 : (Lit.int .u8 a2).wf = true) (w3 : (Lit.int .u8 a3).wf = true) (w4 : (Lit.int .u8 a4).wf = true) (hp : Pow w) :
    Calls Tryd.prog 9 #[.int .u32 a0, .int .u32 a1, .int .u8 a2, .int .u8 a3, .int .u8 a4] w fun e w' => e = .returned (.bool true) ∧ Below w.heap.size w w' := by
  have b0 := bounds_u32 w0
  have b1 := bounds_u32 w1
  have b2 := bounds_u8 w2
  have b3 := bounds_u8 w3
  have b4 := bounds_u8 w4
  clear w0 w1 w2 w3 w4
  obtain ⟨a, rfl⟩ := Int.eq_ofNat_of_zero_le b0.1
  obtain ⟨b, rfl⟩ := Int.eq_ofNat_of_zero_le b1.1
  obtain ⟨n, rfl⟩ := Int.eq_ofNat_of_zero_le b2.1
  obtain ⟨m, rfl⟩ := Int.eq_ofNat_of_zero_le b3.1
  obtain ⟨k, rfl⟩ := Int.eq_ofNat_of_zero_le b4.1
  have ha : a < 4294967296 := by omega
  have hb : b < 4294967296 := by omega
  have hn : n ≤ 255 := by omega
  have hm : m ≤ 255 := by omega
  have hk : k ≤ 255 := by omega
  clear b0 b1 b2 b3 b4
  have hN := len_le n
  have hM := len_le m
  have hK := len_le k
  have hP := top_lt (a := a) (n := n) ha
  have hQ := top_lt (a := a) (n := m) ha
  have hR := top_lt (a := b) (n := k) hb
  have f1 : len m ≤ len n → alike (top a m) (top a n) (len m) = true := nest1 a n m
  have f2 : len m ≤ len n → within (top b k) (len k) (top a n) (len n) = true → within (top b k) (len k) (top a m) (len m) = true := nest2 a n m _ _
  have hcm : ((comm (top a n) (len n) (top a m) (len m) : Nat) : Int) = min ((len n : Nat) : Int) ((len m : Nat) : Int) := by rw [nest3 a n m ha]; omega
  go_enter Tryd.func9, Tryd.ntmps9
  go_wp2_with fail
  refine (rof_any a n ha hn _).mono ?_
  rintro e w1 ⟨rfl, hb1⟩
  generalize top a n = P at *
  generalize len n = N at *
  go_wp2_with fail
  refine (rof_any a m ha hm _).mono ?_
  rintro e w2 ⟨rfl, hb2⟩
  generalize top a m = Q at *
  generalize len m = M at *
  go_wp2_with fail
  refine (rof_any b k hb hk _).mono ?_
  rintro e w3 ⟨rfl, hb3⟩
  generalize top b k = R at *
  generalize len k = K at *
  go_wp2_with fail
  have z1 : w.heap.size ≤ w1.heap.size := hb1.size
  have hw1 : Below w.heap.size w (w1.alloc (.cells #[.int .u32 (P : Nat), .int .u8 (N : Nat)] 24)) := hb1.alloc z1 _
  have z2 : w1.heap.size + 1 ≤ w2.heap.size := by have := hb2.size; simpa using this
  obtain ⟨hc, _⟩ := bcell hb2
  have hw2 : Below w.heap.size w (w2.alloc (.cells #[.int .u32 (Q : Nat), .int .u8 (M : Nat)] 24)) := (bstep hw1 hb2).alloc (by omega) _
  have z3 : w2.heap.size + 1 ≤ w3.heap.size := by have := hb3.size; simpa using this
  obtain ⟨hc3, _⟩ := bcell hb3
  have hw3 : Below w.heap.size w w3 := bstep hw2 hb3
  have x0 : (w2.alloc (.cells #[.int .u32 (Q : Nat), .int .u8 (M : Nat)] 24)).cell? ⟨w1.heap.size, 0, none⟩ = some (.int .u32 P) := by
    rw [World.cell?_alloc_past _ _ _ (by omega), hc _ _ (by simp)]; simp [go_sem]
  have x1 : (w2.alloc (.cells #[.int .u32 (Q : Nat), .int .u8 (M : Nat)] 24)).cell? ⟨w1.heap.size, 1, none⟩ = some (.int .u8 N) := by
    rw [World.cell?_alloc_past _ _ _ (by omega), hc _ _ (by simp)]; simp [go_sem]
  have d0 : (w3.alloc (.cells #[.int .u32 (R : Nat), .int .u8 (K : Nat)] 24)).cell? ⟨w1.heap.size, 0, none⟩ = some (.int .u32 P) := by
    rw [World.cell?_alloc_past _ _ _ (by omega), hc3 _ _ (by simp; omega)]; exact x0
  have d1 : (w3.alloc (.cells #[.int .u32 (R : Nat), .int .u8 (K : Nat)] 24)).cell? ⟨w1.heap.size, 1, none⟩ = some (.int .u8 N) := by
    rw [World.cell?_alloc_past _ _ _ (by omega), hc3 _ _ (by simp; omega)]; exact x1
  have d2 : (w3.alloc (.cells #[.int .u32 (R : Nat), .int .u8 (K : Nat)] 24)).cell? ⟨w2.heap.size, 0, none⟩ = some (.int .u32 Q) := by
    rw [World.cell?_alloc_past _ _ _ (by omega), hc3 _ _ (by simp)]; simp [go_sem]
  have d3 : (w3.alloc (.cells #[.int .u32 (R : Nat), .int .u8 (K : Nat)] 24)).cell? ⟨w2.heap.size, 1, none⟩ = some (.int .u8 M) := by
    rw [World.cell?_alloc_past _ _ _ (by omega), hc3 _ _ (by simp)]; simp [go_sem]
  have d4 : (w3.alloc (.cells #[.int .u32 (R : Nat), .int .u8 (K : Nat)] 24)).cell? ⟨w3.heap.size, 0, none⟩ = some (.int .u32 R) := by simp [go_sem]
  have d5 : (w3.alloc (.cells #[.int .u32 (R : Nat), .int .u8 (K : Nat)] 24)).cell? ⟨w3.heap.size, 1, none⟩ = some (.int .u8 K) := by simp [go_sem]
  have hW : Below w.heap.size w (w3.alloc (.cells #[.int .u32 (R : Nat), .int .u8 (K : Nat)] 24)) := hw3.alloc (by omega) _
  have hpW : Pow (w3.alloc (.cells #[.int .u32 (R : Nat), .int .u8 (K : Nat)] 24)) := pow_below hp hW (pow_size hp)
  generalize w3.alloc (.cells #[.int .u32 (R : Nat), .int .u8 (K : Nat)] 24) = W at *
  generalize w1.heap.size = g1 at *
  generalize w2.heap.size = g2 at *
  generalize w3.heap.size = g3 at *
  clear hc hc3 hb1 hb2 hb3 hw1 hw2 hw3 x0 x1
  have k0 := cell_regrown d0
  have k1 := cell_regrown d1
  have k2 := cell_regrown d2
  have k3 := cell_regrown d3
  have k4 := cell_regrown d4
  have k5 := cell_regrown d5
  clear d0 d1 d2 d3 d4 d5
  by_cases hnm : M ≤ N
  · cases hx : within R K P N
    · have q1 : decide ((M : Int) ≤ (N : Int)) = true := by simp; omega
      have q2 : decide ((N : Int) < (M : Int)) = false := by simp; omega
      have q3 : decide (N < M) = false := by simp; omega
      have q4 : decide (M ≤ N) = true := by simp; omega
      have cA : ∀ d os, Calls Tryd.prog 11 #[] (grow (redrawn W d) os) fun e w'' => e = .returned (.bool true) ∧ ∃ p : Regrown, w'' = grow (redrawn W p.d) p.os := fun d os => Calls.regrown_of (awake_any _ (pow_below hpW (below_regrown W d os) (pow_size hpW)))
      have cW : ∀ d os, Calls Tryd.prog 17 #[.agg #[.int .u32 (P : Nat), .int .u8 (N : Nat)], .agg #[.int .u32 (Q : Nat), .int .u8 (M : Nat)]] (grow (redrawn W d) os) fun e w'' => e = .returned (.bool true) ∧ ∃ p : Regrown, w'' = grow (redrawn W p.d) p.os := fun d os => Calls.regrown_of (by rw [show true = within P N Q M by rw [within, (f1 hnm : alike Q P M = true)]; simp [hnm]]; exact within_any P N Q M hP (by omega) hQ (by omega) _)
      have cX : ∀ d os, Calls Tryd.prog 17 #[.agg #[.int .u32 (R : Nat), .int .u8 (K : Nat)], .agg #[.int .u32 (P : Nat), .int .u8 (N : Nat)]] (grow (redrawn W d) os) fun e w'' => e = .returned (.bool false) ∧ ∃ p : Regrown, w'' = grow (redrawn W p.d) p.os := fun d os => Calls.regrown_of (by rw [← hx]; exact within_any R K P N hR (by omega) hP (by omega) _)
      have cC : ∀ d os, Calls Tryd.prog 21 #[.agg #[.int .u32 (P : Nat), .int .u8 (N : Nat)], .agg #[.int .u32 (Q : Nat), .int .u8 (M : Nat)]] (grow (redrawn W d) os) fun e w'' => e = .returned (.int .u8 (min (N : Int) (M : Int))) ∧ ∃ p : Regrown, w'' = grow (redrawn W p.d) p.os := fun d os => Calls.regrown_of (by rw [← hcm]; exact common_any P N Q M hP hN hQ hM _)
      clear f1 f2 hcm
      refine wp_region_quiet_below (by kernel_rfl) (by kernel_rfl) ?_
      repeat (quiet_step (first | with_reducible exact cA _ _ | with_reducible exact cW _ _ | with_reducible exact cX _ _ | with_reducible exact cC _ _))
      refine wpQuiet_nil ?_
      intro _ hw'
      obtain ⟨⟨dq, osq⟩, hw''⟩ := hw'
      subst hw''
      go_wp2
      go_ret
      exact ⟨rfl, bstep hW (below_regrown W dq osq)⟩
    · have q1 : decide ((M : Int) ≤ (N : Int)) = true := by simp; omega
      have q2 : decide ((N : Int) < (M : Int)) = false := by simp; omega
      have q3 : decide (N < M) = false := by simp; omega
      have q4 : decide (M ≤ N) = true := by simp; omega
      have cA : ∀ d os, Calls Tryd.prog 11 #[] (grow (redrawn W d) os) fun e w'' => e = .returned (.bool true) ∧ ∃ p : Regrown, w'' = grow (redrawn W p.d) p.os := fun d os => Calls.regrown_of (awake_any _ (pow_below hpW (below_regrown W d os) (pow_size hpW)))
      have cW : ∀ d os, Calls Tryd.prog 17 #[.agg #[.int .u32 (P : Nat), .int .u8 (N : Nat)], .agg #[.int .u32 (Q : Nat), .int .u8 (M : Nat)]] (grow (redrawn W d) os) fun e w'' => e = .returned (.bool true) ∧ ∃ p : Regrown, w'' = grow (redrawn W p.d) p.os := fun d os => Calls.regrown_of (by rw [show true = within P N Q M by rw [within, (f1 hnm : alike Q P M = true)]; simp [hnm]]; exact within_any P N Q M hP (by omega) hQ (by omega) _)
      have cX : ∀ d os, Calls Tryd.prog 17 #[.agg #[.int .u32 (R : Nat), .int .u8 (K : Nat)], .agg #[.int .u32 (P : Nat), .int .u8 (N : Nat)]] (grow (redrawn W d) os) fun e w'' => e = .returned (.bool true) ∧ ∃ p : Regrown, w'' = grow (redrawn W p.d) p.os := fun d os => Calls.regrown_of (by rw [← hx]; exact within_any R K P N hR (by omega) hP (by omega) _)
      have cY : ∀ d os, Calls Tryd.prog 17 #[.agg #[.int .u32 (R : Nat), .int .u8 (K : Nat)], .agg #[.int .u32 (Q : Nat), .int .u8 (M : Nat)]] (grow (redrawn W d) os) fun e w'' => e = .returned (.bool true) ∧ ∃ p : Regrown, w'' = grow (redrawn W p.d) p.os := fun d os => Calls.regrown_of (by rw [← f2 hnm hx]; exact within_any R K Q M hR (by omega) hQ (by omega) _)
      have cC : ∀ d os, Calls Tryd.prog 21 #[.agg #[.int .u32 (P : Nat), .int .u8 (N : Nat)], .agg #[.int .u32 (Q : Nat), .int .u8 (M : Nat)]] (grow (redrawn W d) os) fun e w'' => e = .returned (.int .u8 (min (N : Int) (M : Int))) ∧ ∃ p : Regrown, w'' = grow (redrawn W p.d) p.os := fun d os => Calls.regrown_of (by rw [← hcm]; exact common_any P N Q M hP hN hQ hM _)
      clear f1 f2 hcm
      refine wp_region_quiet_below (by kernel_rfl) (by kernel_rfl) ?_
      repeat (quiet_step (first | with_reducible exact cA _ _ | with_reducible exact cW _ _ | with_reducible exact cX _ _ | with_reducible exact cY _ _ | with_reducible exact cC _ _))
      refine wpQuiet_nil ?_
      intro _ hw'
      obtain ⟨⟨dq, osq⟩, hw''⟩ := hw'
      subst hw''
      go_wp2
      go_ret
      exact ⟨rfl, bstep hW (below_regrown W dq osq)⟩
  · cases hx : within R K P N
    · have q1 : decide ((M : Int) ≤ (N : Int)) = false := by simp; omega
      have q2 : decide ((N : Int) < (M : Int)) = true := by simp; omega
      have q3 : decide (N < M) = true := by simp; omega
      have q4 : decide (M ≤ N) = false := by simp; omega
      have cA : ∀ d os, Calls Tryd.prog 11 #[] (grow (redrawn W d) os) fun e w'' => e = .returned (.bool true) ∧ ∃ p : Regrown, w'' = grow (redrawn W p.d) p.os := fun d os => Calls.regrown_of (awake_any _ (pow_below hpW (below_regrown W d os) (pow_size hpW)))
      have cW : ∀ d os, Calls Tryd.prog 17 #[.agg #[.int .u32 (P : Nat), .int .u8 (N : Nat)], .agg #[.int .u32 (Q : Nat), .int .u8 (M : Nat)]] (grow (redrawn W d) os) fun e w'' => e = .returned (.bool false) ∧ ∃ p : Regrown, w'' = grow (redrawn W p.d) p.os := fun d os => Calls.regrown_of (by rw [show false = within P N Q M by simp [within, hnm]]; exact within_any P N Q M hP (by omega) hQ (by omega) _)
      have cX : ∀ d os, Calls Tryd.prog 17 #[.agg #[.int .u32 (R : Nat), .int .u8 (K : Nat)], .agg #[.int .u32 (P : Nat), .int .u8 (N : Nat)]] (grow (redrawn W d) os) fun e w'' => e = .returned (.bool false) ∧ ∃ p : Regrown, w'' = grow (redrawn W p.d) p.os := fun d os => Calls.regrown_of (by rw [← hx]; exact within_any R K P N hR (by omega) hP (by omega) _)
      have cC : ∀ d os, Calls Tryd.prog 21 #[.agg #[.int .u32 (P : Nat), .int .u8 (N : Nat)], .agg #[.int .u32 (Q : Nat), .int .u8 (M : Nat)]] (grow (redrawn W d) os) fun e w'' => e = .returned (.int .u8 (min (N : Int) (M : Int))) ∧ ∃ p : Regrown, w'' = grow (redrawn W p.d) p.os := fun d os => Calls.regrown_of (by rw [← hcm]; exact common_any P N Q M hP hN hQ hM _)
      clear f1 f2 hcm
      refine wp_region_quiet_below (by kernel_rfl) (by kernel_rfl) ?_
      repeat (quiet_step (first | with_reducible exact cA _ _ | with_reducible exact cW _ _ | with_reducible exact cX _ _ | with_reducible exact cC _ _))
      refine wpQuiet_nil ?_
      intro _ hw'
      obtain ⟨⟨dq, osq⟩, hw''⟩ := hw'
      subst hw''
      go_wp2
      go_ret
      exact ⟨rfl, bstep hW (below_regrown W dq osq)⟩
    · have q1 : decide ((M : Int) ≤ (N : Int)) = false := by simp; omega
      have q2 : decide ((N : Int) < (M : Int)) = true := by simp; omega
      have q3 : decide (N < M) = true := by simp; omega
      have q4 : decide (M ≤ N) = false := by simp; omega
      have cA : ∀ d os, Calls Tryd.prog 11 #[] (grow (redrawn W d) os) fun e w'' => e = .returned (.bool true) ∧ ∃ p : Regrown, w'' = grow (redrawn W p.d) p.os := fun d os => Calls.regrown_of (awake_any _ (pow_below hpW (below_regrown W d os) (pow_size hpW)))
      have cW : ∀ d os, Calls Tryd.prog 17 #[.agg #[.int .u32 (P : Nat), .int .u8 (N : Nat)], .agg #[.int .u32 (Q : Nat), .int .u8 (M : Nat)]] (grow (redrawn W d) os) fun e w'' => e = .returned (.bool false) ∧ ∃ p : Regrown, w'' = grow (redrawn W p.d) p.os := fun d os => Calls.regrown_of (by rw [show false = within P N Q M by simp [within, hnm]]; exact within_any P N Q M hP (by omega) hQ (by omega) _)
      have cX : ∀ d os, Calls Tryd.prog 17 #[.agg #[.int .u32 (R : Nat), .int .u8 (K : Nat)], .agg #[.int .u32 (P : Nat), .int .u8 (N : Nat)]] (grow (redrawn W d) os) fun e w'' => e = .returned (.bool true) ∧ ∃ p : Regrown, w'' = grow (redrawn W p.d) p.os := fun d os => Calls.regrown_of (by rw [← hx]; exact within_any R K P N hR (by omega) hP (by omega) _)
      have cC : ∀ d os, Calls Tryd.prog 21 #[.agg #[.int .u32 (P : Nat), .int .u8 (N : Nat)], .agg #[.int .u32 (Q : Nat), .int .u8 (M : Nat)]] (grow (redrawn W d) os) fun e w'' => e = .returned (.int .u8 (min (N : Int) (M : Int))) ∧ ∃ p : Regrown, w'' = grow (redrawn W p.d) p.os := fun d os => Calls.regrown_of (by rw [← hcm]; exact common_any P N Q M hP hN hQ hM _)
      clear f1 f2 hcm
      refine wp_region_quiet_below (by kernel_rfl) (by kernel_rfl) ?_
      repeat (quiet_step (first | with_reducible exact cA _ _ | with_reducible exact cW _ _ | with_reducible exact cX _ _ | with_reducible exact cC _ _))
      refine wpQuiet_nil ?_
      intro _ hw'
      obtain ⟨⟨dq, osq⟩, hw''⟩ := hw'
      subst hw''
      go_wp2
      go_ret
      exact ⟨rfl, bstep hW (below_regrown W dq osq)⟩

set_option maxRecDepth 100000 in
theorem lifted (os : Os) (started : os.Started) (H : Type) (enc : TypeId × Value → H) :
    ReturnsInHanded {} Tryd.checked os 9 .any (fun w args => (Rows.prefixNestsSpec.pre enc Tryd.prog Tryd.f9 Rows.prefixNestsRow.domain false w args ∧ laidMet Tryd.prog Rows.prefixNestsRow.laid w) ∧ sizedMet enc Tryd.prog Tryd.f9 (OpenSpec.ofChange Rows.prefixNestsSpec) false w args)
      (Rows.prefixNestsSpec.post enc Tryd.prog Tryd.f9 false true false false) := by
  refine returnsInHanded_of_change_and (C := Tryd.checked) (X := fun w _ => laidMet Tryd.prog Rows.prefixNestsRow.laid w) (fun _ _ _ hh h => h.of_heap hh) own started (by kernel_rfl) Tryd.func9
    (ChangeSpec.witness_at (enc := enc) (C := Tryd.checked) (os := os) (X := fun w _ => laidMet Tryd.prog Rows.prefixNestsRow.laid w) false (laidWorld os) #[.int .u32 0, .int .u32 0, .int .u8 0, .int .u8 0, .int .u8 0] 8 rfl (by kernel_rfl) (by kernel_rfl) (by kernel_rfl) (by kernel_rfl) (by kernel_rfl) (laid_met os _)) ?_
  intro W base args ds gs before hval0 hW hcnd _ hL _
  have hval : ∀ (j : Nat) t v, Tryd.f9.params[j]? = some t → args[j]? = some v → Value.okWide Tryd.prog W .any base t v := hval0
  have hW' := hW
  obtain ⟨p, q, hA0, hV, rfl, hfz, hnd⟩ := hW
  have hA : DataW.TrodAll enc Tryd.prog W 0 (fun _ => true) true Tryd.f9.params.toList args.toList ds p := hA0
  rw [Tryd.params9] at hA hval
  obtain ⟨v0, vs0, d0, ds0, p0, q0, hargs, rfl, rfl, h0, r0⟩ := trodAll_cons hA
  obtain ⟨v1, vs1, d1, ds1, p1, q1, rfl, rfl, rfl, h1, r1⟩ := trodAll_cons r0
  obtain ⟨v2, vs2, d2, ds2, p2, q2, rfl, rfl, rfl, h2, r2⟩ := trodAll_cons r1
  obtain ⟨v3, vs3, d3, ds3, p3, q3, rfl, rfl, rfl, h3, r3⟩ := trodAll_cons r2
  obtain ⟨v4, vs4, d4, ds4, p4, q4, rfl, rfl, rfl, h4, r4⟩ := trodAll_cons r3
  obtain ⟨rfl, rfl, rfl⟩ := trodAll_nil r4
  obtain rfl : args = #[v0, v1, v2, v3, v4] := by cases args; simp_all
  obtain ⟨rfl, rfl⟩ := trodVars_none hV
  obtain ⟨a0, rfl, rfl, rfl, w0⟩ := open_int Tryd.underlying22 (hval 0 22 v0 rfl rfl) h0
  obtain ⟨a1, rfl, rfl, rfl, w1⟩ := open_int Tryd.underlying22 (hval 1 22 v1 rfl rfl) h1
  obtain ⟨a2, rfl, rfl, rfl, w2⟩ := open_int Tryd.underlying5 (hval 2 5 v2 rfl rfl) h2
  obtain ⟨a3, rfl, rfl, rfl, w3⟩ := open_int Tryd.underlying5 (hval 3 5 v3 rfl rfl) h3
  obtain ⟨a4, rfl, rfl, rfl, w4⟩ := open_int Tryd.underlying5 (hval 4 5 v4 rfl rfl) h4
  clear hA0 hval0
  refine (walk a0 a1 a2 a3 a4 W w0 w1 w2 w3 w4 (pow_of_laid hL)).mono fun e W' ⟨he, bel⟩ => ?_
  subst he
  exact ⟨_, rfl, _, _, _, [], _, [], hW', trodAll_mk1 (shut_bool Tryd.underlying4 _), (trodAll_cons_mk (shut_int Tryd.underlying22 w0) (trodAll_cons_mk (shut_int Tryd.underlying22 w1) (trodAll_cons_mk (shut_int Tryd.underlying5 w2) (trodAll_cons_mk (shut_int Tryd.underlying5 w3) (trodAll_cons_mk (shut_int Tryd.underlying5 w4) trodAll_mk0))))), rfl, bel.frame _, fun h => by cases h⟩

theorem over : Rows.prefixNestsRow.holds Tryd.pinned (OpenSpec.ofChange Rows.prefixNestsSpec) :=
  OpenClaim.holds_of_wide 9 Tryd.f9 rfl rfl rfl rfl rfl rfl rfl ⟨rfl, rfl, rfl, rfl, rfl⟩ rfl rfl rfl rfl rfl (by kernel_rfl) Tryd.func9 (by kernel_rfl)
    (of_decide_eq_true (by kernel_rfl)) (by unfold Func.isWrapper; first | (rw [if_pos (by decide +kernel)]; kernel_rfl) | (rw [if_neg (by decide +kernel)]; exact ⟨rfl, rfl⟩))
    (fun os started H enc _ => lifted os started H enc)

theorem proved : Rows.PrefixNestsCardSaid :=
  Claim7.holds_tied_plain_at .later [] [.data, .data, .data] true (true, "7cfdeb993fdfbec8b9b5e67db3be9459c695c22a0ecd678560527101ee5685f7") false
    over (fun _ h => by cases h) (by kernel_rfl) (fun _ h => by cases h) prefixNests_row_tie rfl ⟨rfl, rfl⟩ (by kernel_rfl) rfl
    (fun f fn hf hfn => by
      obtain rfl : f = 9 := Option.some.inj ((show Tryd.prog.funcNamed "milestone/milestonelaw01.PrefixNests" = some 9 by kernel_rfl).symm.trans hf) |>.symm
      obtain rfl : fn = Tryd.f9 := (Option.some.inj (Tryd.func9.symm.trans hfn)).symm
      exact ⟨by kernel_rfl, fun j t ht => by
        rw [Tryd.params9] at ht
        have hm : t ∈ [22, 22, 5, 5, 5] := by simpa using Array.mem_of_getElem? ht
        have hall : ([22, 22, 5, 5, 5].all fun u => !Tryd.prog.wantsStandIn u) = true := by kernel_rfl
        exact (show Tryd.prog.wantsStandIn t = false by simpa using List.all_eq_true.1 hall t hm)⟩)
    (by kernel_rfl)
#print axioms proved
end Go.Proofs.YtdfphpoakihkdaaDoor.prefixNests
