/-
  'For every input the Go function milestonelaw01.PrefixHas returns true, and each argument reads behind the call as it read before.'
  Conditions: none but the row's own (linux/amd64, sizes of what is read within the address space).
-/
import Derived.Test.YtdfphpoakihkdaaDoorRows
import Derived.WalkKit
import Derived.ProofKit
import Derived.OpenShut
import Derived.ShutString
import Derived.ChangeOld
import Derived.Below
import Derived.Lib.SmallJoins
import Derived.Lib.Hide
import Derived.Test.YtdfphpoakihkdaaDoorAw
import Derived.Test.YtdfphpoakihkdaaDoorLaid
import Derived.Test.YtdfphpoakihkdaaDoorCards
import Derived.Test.YtdfphpoakihkdaaDoorTie
import Derived.SevenTiedAt
import Derived.Laws.Closers25b
namespace Go.Proofs.YtdfphpoakihkdaaDoor.prefixHas
open Pre
open Go.Sort
open Go.ChangeShapes Go.WideShapes Go.ChangeAt Go.RowKit
open Go.ChangeMaps (open_string shut_string)
set_option linter.unusedVariables false

theorem own : ownKnob Tryd.prog.godebug = none := by kernel_rfl
theorem laidOut : laidOutB Tryd.prog = true := by kernel_rfl

set_option maxHeartbeats 2000000 in
theorem walk (a0 : Int) (a1 : Int) (a2 : Int) (a3 : Int) (a4 : Bool) (w : World) (w0 : (Lit.int .u32 a0).wf = true) (w1 : (Lit.int .u32 a1).wf = true) (w2 : (Lit.int .u8 a2).wf = true) (w3 : (Lit.int .u8 a3).wf = true) (hp : Pow w) :
    Calls Tryd.prog 4 #[.int .u32 a0, .int .u32 a1, .int .u8 a2, .int .u8 a3, .bool a4] w fun e w' => e = .returned (.bool true) ∧ Below w.heap.size w w' := by
  have b0 := bounds_u32 w0
  have b1 := bounds_u32 w1
  have b2 := bounds_u8 w2
  have b3 := bounds_u8 w3
  clear w0 w1 w2 w3
  obtain ⟨a, rfl⟩ := Int.eq_ofNat_of_zero_le b0.1
  obtain ⟨b, rfl⟩ := Int.eq_ofNat_of_zero_le b1.1
  obtain ⟨n, rfl⟩ := Int.eq_ofNat_of_zero_le b2.1
  obtain ⟨m, rfl⟩ := Int.eq_ofNat_of_zero_le b3.1
  have ha : a < 4294967296 := by omega
  have hb : b < 4294967296 := by omega
  have hn : n ≤ 255 := by omega
  have hm : m ≤ 255 := by omega
  clear b0 b1 b2 b3
  have hN := len_le n
  have hM := len_le m
  have hP := top_lt (a := a) (n := n) ha
  have hQ := top_lt (a := b) (n := m) hb
  cases a4
  · go_enter Tryd.func4, Tryd.ntmps4
    go_wp2_with fail
    refine (rof_any a n ha hn _).mono ?_
    rintro e w1 ⟨rfl, hb1⟩
    generalize top a n = P at *
    generalize len n = N at *
    go_wp2_with fail
    refine (rof_any b m hb hm _).mono ?_
    rintro e w2 ⟨rfl, hb2⟩
    generalize top b m = Q at *
    generalize len m = M at *
    go_wp2_with fail
    have z1 : w.heap.size ≤ w1.heap.size := hb1.size
    have hw1 : Below w.heap.size w (w1.alloc (.cells #[.int .u32 (P : Nat), .int .u8 (N : Nat)] 24)) := hb1.alloc z1 _
    have z2 : w1.heap.size + 1 ≤ w2.heap.size := by have := hb2.size; simpa using this
    obtain ⟨hc, _⟩ := bcell hb2
    have hw2 : Below w.heap.size w w2 := bstep hw1 hb2
    have d0 : (w2.alloc (.cells #[.int .u32 (Q : Nat), .int .u8 (M : Nat)] 24)).cell? ⟨w1.heap.size, 0, none⟩ = some (.int .u32 P) := by
      rw [World.cell?_alloc_past _ _ _ (by omega), hc _ _ (by simp)]; simp [go_sem]
    have d1 : (w2.alloc (.cells #[.int .u32 (Q : Nat), .int .u8 (M : Nat)] 24)).cell? ⟨w1.heap.size, 1, none⟩ = some (.int .u8 N) := by
      rw [World.cell?_alloc_past _ _ _ (by omega), hc _ _ (by simp)]; simp [go_sem]
    have d2 : (w2.alloc (.cells #[.int .u32 (Q : Nat), .int .u8 (M : Nat)] 24)).cell? ⟨w2.heap.size, 0, none⟩ = some (.int .u32 Q) := by simp [go_sem]
    have d3 : (w2.alloc (.cells #[.int .u32 (Q : Nat), .int .u8 (M : Nat)] 24)).cell? ⟨w2.heap.size, 1, none⟩ = some (.int .u8 M) := by simp [go_sem]
    have hW : Below w.heap.size w (w2.alloc (.cells #[.int .u32 (Q : Nat), .int .u8 (M : Nat)] 24)) := hw2.alloc (by omega) _
    have hpW : Pow (w2.alloc (.cells #[.int .u32 (Q : Nat), .int .u8 (M : Nat)] 24)) := pow_below hp hW (pow_size hp)
    generalize w2.alloc (.cells #[.int .u32 (Q : Nat), .int .u8 (M : Nat)] 24) = W at *
    generalize w1.heap.size = g1 at *
    generalize w2.heap.size = g2 at *
    clear hc hb1 hb2 hw1 hw2
    have k0 := cell_regrown d0
    have k1 := cell_regrown d1
    have k2 := cell_regrown d2
    have k3 := cell_regrown d3
    clear d0 d1 d2 d3
    by_cases hnm : N ≤ M
    · have hd : decide ((N : Int) ≤ (M : Int)) = true := by simp; omega
      have cA : ∀ d os, Calls Tryd.prog 11 #[] (grow (redrawn W d) os) fun e w'' => e = .returned (.bool true) ∧ ∃ p : Regrown, w'' = grow (redrawn W p.d) p.os := fun d os => Calls.regrown_of (awake_any _ (pow_below hpW (below_regrown W d os) (pow_size hpW)))
      have cH : ∀ d os, Calls Tryd.prog 15 #[.agg #[.int .u32 (P : Nat), .int .u8 (N : Nat)], .int .u32 (b : Nat)] (grow (redrawn W d) os) fun e w'' => e = .returned (.bool (alike P b N)) ∧ ∃ p : Regrown, w'' = grow (redrawn W p.d) p.os := fun d os => Calls.regrown_of (has_any P N b hP (by omega) hb _)
      have cI : ∀ d os, Calls Tryd.prog 16 #[.agg #[.int .u32 (P : Nat), .int .u8 (N : Nat)], .int .u32 (b : Nat)] (grow (redrawn W d) os) fun e w'' => e = .returned (.bool (alike P b N)) ∧ ∃ p : Regrown, w'' = grow (redrawn W p.d) p.os := fun d os => Calls.regrown_of (rhas_any P N b hP hN hb _)
      have cJ : ∀ d os, Calls Tryd.prog 16 #[.agg #[.int .u32 (P : Nat), .int .u8 (N : Nat)], .int .u32 (Q : Nat)] (grow (redrawn W d) os) fun e w'' => e = .returned (.bool (alike P Q N)) ∧ ∃ p : Regrown, w'' = grow (redrawn W p.d) p.os := fun d os => Calls.regrown_of (rhas_any P N Q hP hN hQ _)
      have cW : ∀ d os, Calls Tryd.prog 17 #[.agg #[.int .u32 (Q : Nat), .int .u8 (M : Nat)], .agg #[.int .u32 (P : Nat), .int .u8 (N : Nat)]] (grow (redrawn W d) os) fun e w'' => e = .returned (.bool (alike P Q N)) ∧ ∃ p : Regrown, w'' = grow (redrawn W p.d) p.os := fun d os => Calls.regrown_of (by rw [show (alike P Q N) = within Q M P N by simp [within, hnm]]; exact within_any Q M P N hQ (by omega) hP (by omega) _)
      have cV : ∀ d os, Calls Tryd.prog 17 #[.agg #[.int .u32 (P : Nat), .int .u8 (N : Nat)], .agg #[.int .u32 (P : Nat), .int .u8 (N : Nat)]] (grow (redrawn W d) os) fun e w'' => e = .returned (.bool true) ∧ ∃ p : Regrown, w'' = grow (redrawn W p.d) p.os := fun d os => Calls.regrown_of (by rw [show true = within P N P N by simp [within, alike]]; exact within_any P N P N hP (by omega) hP (by omega) _)
      have cG : ∀ d os, Calls Tryd.prog 15 #[.agg #[.int .u32 (P : Nat), .int .u8 (N : Nat)], .int .u32 (P : Nat)] (grow (redrawn W d) os) fun e w'' => e = .returned (.bool true) ∧ ∃ p : Regrown, w'' = grow (redrawn W p.d) p.os := fun d os => Calls.regrown_of (by rw [show true = alike P P N by simp [alike]]; exact has_any P N P hP (by omega) hP _)
      refine wp_region_quiet_below (by kernel_rfl) (by kernel_rfl) ?_
      repeat (quiet_step (first | with_reducible exact cA _ _ | with_reducible exact cH _ _ | with_reducible exact cI _ _ | with_reducible exact cJ _ _ | with_reducible exact cW _ _ | with_reducible exact cV _ _ | with_reducible exact cG _ _))
      refine wpQuiet_nil ?_
      intro _ hw'
      obtain ⟨⟨dq, osq⟩, hw''⟩ := hw'
      subst hw''
      go_wp2
      go_ret
      exact ⟨rfl, bstep hW (below_regrown W dq osq)⟩
    · have hd : decide ((N : Int) ≤ (M : Int)) = false := by simp; omega
      have cA : ∀ d os, Calls Tryd.prog 11 #[] (grow (redrawn W d) os) fun e w'' => e = .returned (.bool true) ∧ ∃ p : Regrown, w'' = grow (redrawn W p.d) p.os := fun d os => Calls.regrown_of (awake_any _ (pow_below hpW (below_regrown W d os) (pow_size hpW)))
      have cH : ∀ d os, Calls Tryd.prog 15 #[.agg #[.int .u32 (P : Nat), .int .u8 (N : Nat)], .int .u32 (b : Nat)] (grow (redrawn W d) os) fun e w'' => e = .returned (.bool (alike P b N)) ∧ ∃ p : Regrown, w'' = grow (redrawn W p.d) p.os := fun d os => Calls.regrown_of (has_any P N b hP (by omega) hb _)
      have cI : ∀ d os, Calls Tryd.prog 16 #[.agg #[.int .u32 (P : Nat), .int .u8 (N : Nat)], .int .u32 (b : Nat)] (grow (redrawn W d) os) fun e w'' => e = .returned (.bool (alike P b N)) ∧ ∃ p : Regrown, w'' = grow (redrawn W p.d) p.os := fun d os => Calls.regrown_of (rhas_any P N b hP hN hb _)
      have cJ : ∀ d os, Calls Tryd.prog 16 #[.agg #[.int .u32 (P : Nat), .int .u8 (N : Nat)], .int .u32 (Q : Nat)] (grow (redrawn W d) os) fun e w'' => e = .returned (.bool (alike P Q N)) ∧ ∃ p : Regrown, w'' = grow (redrawn W p.d) p.os := fun d os => Calls.regrown_of (rhas_any P N Q hP hN hQ _)
      have cW : ∀ d os, Calls Tryd.prog 17 #[.agg #[.int .u32 (Q : Nat), .int .u8 (M : Nat)], .agg #[.int .u32 (P : Nat), .int .u8 (N : Nat)]] (grow (redrawn W d) os) fun e w'' => e = .returned (.bool (false)) ∧ ∃ p : Regrown, w'' = grow (redrawn W p.d) p.os := fun d os => Calls.regrown_of (by rw [show (false) = within Q M P N by simp [within, hnm]]; exact within_any Q M P N hQ (by omega) hP (by omega) _)
      have cV : ∀ d os, Calls Tryd.prog 17 #[.agg #[.int .u32 (P : Nat), .int .u8 (N : Nat)], .agg #[.int .u32 (P : Nat), .int .u8 (N : Nat)]] (grow (redrawn W d) os) fun e w'' => e = .returned (.bool true) ∧ ∃ p : Regrown, w'' = grow (redrawn W p.d) p.os := fun d os => Calls.regrown_of (by rw [show true = within P N P N by simp [within, alike]]; exact within_any P N P N hP (by omega) hP (by omega) _)
      have cG : ∀ d os, Calls Tryd.prog 15 #[.agg #[.int .u32 (P : Nat), .int .u8 (N : Nat)], .int .u32 (P : Nat)] (grow (redrawn W d) os) fun e w'' => e = .returned (.bool true) ∧ ∃ p : Regrown, w'' = grow (redrawn W p.d) p.os := fun d os => Calls.regrown_of (by rw [show true = alike P P N by simp [alike]]; exact has_any P N P hP (by omega) hP _)
      refine wp_region_quiet_below (by kernel_rfl) (by kernel_rfl) ?_
      repeat (quiet_step (first | with_reducible exact cA _ _ | with_reducible exact cH _ _ | with_reducible exact cI _ _ | with_reducible exact cJ _ _ | with_reducible exact cW _ _ | with_reducible exact cV _ _ | with_reducible exact cG _ _))
      refine wpQuiet_nil ?_
      intro _ hw'
      obtain ⟨⟨dq, osq⟩, hw''⟩ := hw'
      subst hw''
      go_wp2
      go_ret
      exact ⟨rfl, bstep hW (below_regrown W dq osq)⟩
  · clear hQ
    go_enter Tryd.func4, Tryd.ntmps4
    go_wp2_with fail
    refine (rof_any a n ha hn _).mono ?_
    rintro e w1 ⟨rfl, hb1⟩
    generalize top a n = P at *
    generalize len n = N at *
    go_wp2_with fail
    have hlo := bits_lo_u32 .or (P : Int) ((b : Int) / 2 ^ (min (N : Int) 31).toNat)
    have hhi := bits_hi_u32 .or (P : Int) ((b : Int) / 2 ^ (min (N : Int) 31).toNat)
    generalize bits .or .u32 (P : Int) ((b : Int) / 2 ^ (min (N : Int) 31).toNat) = v at *
    obtain ⟨c, rfl⟩ := Int.eq_ofNat_of_zero_le hlo
    have hcb : c < 4294967296 := by omega
    have hQ := top_lt (a := c) (n := m) hcb
    clear hlo hhi
    refine (rof_any c m hcb hm _).mono ?_
    rintro e w2 ⟨rfl, hb2⟩
    generalize top c m = Q at *
    generalize len m = M at *
    go_wp2_with fail
    have z1 : w.heap.size ≤ w1.heap.size := hb1.size
    have hw1 : Below w.heap.size w (w1.alloc (.cells #[.int .u32 (P : Nat), .int .u8 (N : Nat)] 24)) := hb1.alloc z1 _
    have z2 : w1.heap.size + 1 ≤ w2.heap.size := by have := hb2.size; simpa using this
    obtain ⟨hc, _⟩ := bcell hb2
    have hw2 : Below w.heap.size w w2 := bstep hw1 hb2
    have d0 : (w2.alloc (.cells #[.int .u32 (Q : Nat), .int .u8 (M : Nat)] 24)).cell? ⟨w1.heap.size, 0, none⟩ = some (.int .u32 P) := by
      rw [World.cell?_alloc_past _ _ _ (by omega), hc _ _ (by simp)]; simp [go_sem]
    have d1 : (w2.alloc (.cells #[.int .u32 (Q : Nat), .int .u8 (M : Nat)] 24)).cell? ⟨w1.heap.size, 1, none⟩ = some (.int .u8 N) := by
      rw [World.cell?_alloc_past _ _ _ (by omega), hc _ _ (by simp)]; simp [go_sem]
    have d2 : (w2.alloc (.cells #[.int .u32 (Q : Nat), .int .u8 (M : Nat)] 24)).cell? ⟨w2.heap.size, 0, none⟩ = some (.int .u32 Q) := by simp [go_sem]
    have d3 : (w2.alloc (.cells #[.int .u32 (Q : Nat), .int .u8 (M : Nat)] 24)).cell? ⟨w2.heap.size, 1, none⟩ = some (.int .u8 M) := by simp [go_sem]
    have hW : Below w.heap.size w (w2.alloc (.cells #[.int .u32 (Q : Nat), .int .u8 (M : Nat)] 24)) := hw2.alloc (by omega) _
    have hpW : Pow (w2.alloc (.cells #[.int .u32 (Q : Nat), .int .u8 (M : Nat)] 24)) := pow_below hp hW (pow_size hp)
    generalize w2.alloc (.cells #[.int .u32 (Q : Nat), .int .u8 (M : Nat)] 24) = W at *
    generalize w1.heap.size = g1 at *
    generalize w2.heap.size = g2 at *
    clear hc hb1 hb2 hw1 hw2
    have k0 := cell_regrown d0
    have k1 := cell_regrown d1
    have k2 := cell_regrown d2
    have k3 := cell_regrown d3
    clear d0 d1 d2 d3
    by_cases hnm : N ≤ M
    · have hd : decide ((N : Int) ≤ (M : Int)) = true := by simp; omega
      have cA : ∀ d os, Calls Tryd.prog 11 #[] (grow (redrawn W d) os) fun e w'' => e = .returned (.bool true) ∧ ∃ p : Regrown, w'' = grow (redrawn W p.d) p.os := fun d os => Calls.regrown_of (awake_any _ (pow_below hpW (below_regrown W d os) (pow_size hpW)))
      have cH : ∀ d os, Calls Tryd.prog 15 #[.agg #[.int .u32 (P : Nat), .int .u8 (N : Nat)], .int .u32 (c : Nat)] (grow (redrawn W d) os) fun e w'' => e = .returned (.bool (alike P c N)) ∧ ∃ p : Regrown, w'' = grow (redrawn W p.d) p.os := fun d os => Calls.regrown_of (has_any P N c hP (by omega) hcb _)
      have cI : ∀ d os, Calls Tryd.prog 16 #[.agg #[.int .u32 (P : Nat), .int .u8 (N : Nat)], .int .u32 (c : Nat)] (grow (redrawn W d) os) fun e w'' => e = .returned (.bool (alike P c N)) ∧ ∃ p : Regrown, w'' = grow (redrawn W p.d) p.os := fun d os => Calls.regrown_of (rhas_any P N c hP hN hcb _)
      have cJ : ∀ d os, Calls Tryd.prog 16 #[.agg #[.int .u32 (P : Nat), .int .u8 (N : Nat)], .int .u32 (Q : Nat)] (grow (redrawn W d) os) fun e w'' => e = .returned (.bool (alike P Q N)) ∧ ∃ p : Regrown, w'' = grow (redrawn W p.d) p.os := fun d os => Calls.regrown_of (rhas_any P N Q hP hN hQ _)
      have cW : ∀ d os, Calls Tryd.prog 17 #[.agg #[.int .u32 (Q : Nat), .int .u8 (M : Nat)], .agg #[.int .u32 (P : Nat), .int .u8 (N : Nat)]] (grow (redrawn W d) os) fun e w'' => e = .returned (.bool (alike P Q N)) ∧ ∃ p : Regrown, w'' = grow (redrawn W p.d) p.os := fun d os => Calls.regrown_of (by rw [show (alike P Q N) = within Q M P N by simp [within, hnm]]; exact within_any Q M P N hQ (by omega) hP (by omega) _)
      have cV : ∀ d os, Calls Tryd.prog 17 #[.agg #[.int .u32 (P : Nat), .int .u8 (N : Nat)], .agg #[.int .u32 (P : Nat), .int .u8 (N : Nat)]] (grow (redrawn W d) os) fun e w'' => e = .returned (.bool true) ∧ ∃ p : Regrown, w'' = grow (redrawn W p.d) p.os := fun d os => Calls.regrown_of (by rw [show true = within P N P N by simp [within, alike]]; exact within_any P N P N hP (by omega) hP (by omega) _)
      have cG : ∀ d os, Calls Tryd.prog 15 #[.agg #[.int .u32 (P : Nat), .int .u8 (N : Nat)], .int .u32 (P : Nat)] (grow (redrawn W d) os) fun e w'' => e = .returned (.bool true) ∧ ∃ p : Regrown, w'' = grow (redrawn W p.d) p.os := fun d os => Calls.regrown_of (by rw [show true = alike P P N by simp [alike]]; exact has_any P N P hP (by omega) hP _)
      refine wp_region_quiet_below (by kernel_rfl) (by kernel_rfl) ?_
      repeat (quiet_step (first | with_reducible exact cA _ _ | with_reducible exact cH _ _ | with_reducible exact cI _ _ | with_reducible exact cJ _ _ | with_reducible exact cW _ _ | with_reducible exact cV _ _ | with_reducible exact cG _ _))
      refine wpQuiet_nil ?_
      intro _ hw'
      obtain ⟨⟨dq, osq⟩, hw''⟩ := hw'
      subst hw''
      go_wp2
      go_ret
      exact ⟨rfl, bstep hW (below_regrown W dq osq)⟩
    · have hd : decide ((N : Int) ≤ (M : Int)) = false := by simp; omega
      have cA : ∀ d os, Calls Tryd.prog 11 #[] (grow (redrawn W d) os) fun e w'' => e = .returned (.bool true) ∧ ∃ p : Regrown, w'' = grow (redrawn W p.d) p.os := fun d os => Calls.regrown_of (awake_any _ (pow_below hpW (below_regrown W d os) (pow_size hpW)))
      have cH : ∀ d os, Calls Tryd.prog 15 #[.agg #[.int .u32 (P : Nat), .int .u8 (N : Nat)], .int .u32 (c : Nat)] (grow (redrawn W d) os) fun e w'' => e = .returned (.bool (alike P c N)) ∧ ∃ p : Regrown, w'' = grow (redrawn W p.d) p.os := fun d os => Calls.regrown_of (has_any P N c hP (by omega) hcb _)
      have cI : ∀ d os, Calls Tryd.prog 16 #[.agg #[.int .u32 (P : Nat), .int .u8 (N : Nat)], .int .u32 (c : Nat)] (grow (redrawn W d) os) fun e w'' => e = .returned (.bool (alike P c N)) ∧ ∃ p : Regrown, w'' = grow (redrawn W p.d) p.os := fun d os => Calls.regrown_of (rhas_any P N c hP hN hcb _)
      have cJ : ∀ d os, Calls Tryd.prog 16 #[.agg #[.int .u32 (P : Nat), .int .u8 (N : Nat)], .int .u32 (Q : Nat)] (grow (redrawn W d) os) fun e w'' => e = .returned (.bool (alike P Q N)) ∧ ∃ p : Regrown, w'' = grow (redrawn W p.d) p.os := fun d os => Calls.regrown_of (rhas_any P N Q hP hN hQ _)
      have cW : ∀ d os, Calls Tryd.prog 17 #[.agg #[.int .u32 (Q : Nat), .int .u8 (M : Nat)], .agg #[.int .u32 (P : Nat), .int .u8 (N : Nat)]] (grow (redrawn W d) os) fun e w'' => e = .returned (.bool (false)) ∧ ∃ p : Regrown, w'' = grow (redrawn W p.d) p.os := fun d os => Calls.regrown_of (by rw [show (false) = within Q M P N by simp [within, hnm]]; exact within_any Q M P N hQ (by omega) hP (by omega) _)
      have cV : ∀ d os, Calls Tryd.prog 17 #[.agg #[.int .u32 (P : Nat), .int .u8 (N : Nat)], .agg #[.int .u32 (P : Nat), .int .u8 (N : Nat)]] (grow (redrawn W d) os) fun e w'' => e = .returned (.bool true) ∧ ∃ p : Regrown, w'' = grow (redrawn W p.d) p.os := fun d os => Calls.regrown_of (by rw [show true = within P N P N by simp [within, alike]]; exact within_any P N P N hP (by omega) hP (by omega) _)
      have cG : ∀ d os, Calls Tryd.prog 15 #[.agg #[.int .u32 (P : Nat), .int .u8 (N : Nat)], .int .u32 (P : Nat)] (grow (redrawn W d) os) fun e w'' => e = .returned (.bool true) ∧ ∃ p : Regrown, w'' = grow (redrawn W p.d) p.os := fun d os => Calls.regrown_of (by rw [show true = alike P P N by simp [alike]]; exact has_any P N P hP (by omega) hP _)
      refine wp_region_quiet_below (by kernel_rfl) (by kernel_rfl) ?_
      repeat (quiet_step (first | with_reducible exact cA _ _ | with_reducible exact cH _ _ | with_reducible exact cI _ _ | with_reducible exact cJ _ _ | with_reducible exact cW _ _ | with_reducible exact cV _ _ | with_reducible exact cG _ _))
      refine wpQuiet_nil ?_
      intro _ hw'
      obtain ⟨⟨dq, osq⟩, hw''⟩ := hw'
      subst hw''
      go_wp2
      go_ret
      exact ⟨rfl, bstep hW (below_regrown W dq osq)⟩

set_option maxRecDepth 100000 in
theorem lifted (os : Os) (started : os.Started) (H : Type) (enc : TypeId × Value → H) :
    ReturnsInHanded {} Tryd.checked os 4 .any (fun w args => (Rows.prefixHasSpec.pre enc Tryd.prog Tryd.f4 Rows.prefixHasRow.domain false w args ∧ laidMet Tryd.prog Rows.prefixHasRow.laid w) ∧ sizedMet enc Tryd.prog Tryd.f4 (OpenSpec.ofChange Rows.prefixHasSpec) false w args)
      (Rows.prefixHasSpec.post enc Tryd.prog Tryd.f4 false true false false) := by
  refine returnsInHanded_of_change_and (C := Tryd.checked) (X := fun w _ => laidMet Tryd.prog Rows.prefixHasRow.laid w) (fun _ _ _ hh h => h.of_heap hh) own started (by kernel_rfl) Tryd.func4
    (ChangeSpec.witness_at (enc := enc) (C := Tryd.checked) (os := os) (X := fun w _ => laidMet Tryd.prog Rows.prefixHasRow.laid w) false (laidWorld os) #[.int .u32 0, .int .u32 0, .int .u8 0, .int .u8 0, .bool false] 8 rfl (by kernel_rfl) (by kernel_rfl) (by kernel_rfl) (by kernel_rfl) (by kernel_rfl) (laid_met os _)) ?_
  intro W base args ds gs before hval0 hW hcnd _ hL _
  have hval : ∀ (j : Nat) t v, Tryd.f4.params[j]? = some t → args[j]? = some v → Value.okWide Tryd.prog W .any base t v := hval0
  have hW' := hW
  obtain ⟨p, q, hA0, hV, rfl, hfz, hnd⟩ := hW
  have hA : DataW.TrodAll enc Tryd.prog W 0 (fun _ => true) true Tryd.f4.params.toList args.toList ds p := hA0
  rw [Tryd.params4] at hA hval
  obtain ⟨v0, vs0, d0, ds0, p0, q0, hargs, rfl, rfl, h0, r0⟩ := trodAll_cons hA
  obtain ⟨v1, vs1, d1, ds1, p1, q1, rfl, rfl, rfl, h1, r1⟩ := trodAll_cons r0
  obtain ⟨v2, vs2, d2, ds2, p2, q2, rfl, rfl, rfl, h2, r2⟩ := trodAll_cons r1
  obtain ⟨v3, vs3, d3, ds3, p3, q3, rfl, rfl, rfl, h3, r3⟩ := trodAll_cons r2
  obtain ⟨v4, vs4, d4, ds4, p4, q4, rfl, rfl, rfl, h4, r4⟩ := trodAll_cons r3
  obtain ⟨rfl, rfl, rfl⟩ := trodAll_nil r4
  obtain rfl : args = #[v0, v1, v2, v3, v4] := by cases args; simp_all
  obtain ⟨rfl, rfl⟩ := trodVars_none hV
  obtain ⟨a0, rfl, rfl, rfl, w0⟩ := open_int Tryd.underlying22 (hval 0 22 v0 rfl rfl) h0
  obtain ⟨a1, rfl, rfl, rfl, w1⟩ := open_int Tryd.underlying22 (hval 1 22 v1 rfl rfl) h1
  obtain ⟨a2, rfl, rfl, rfl, w2⟩ := open_int Tryd.underlying5 (hval 2 5 v2 rfl rfl) h2
  obtain ⟨a3, rfl, rfl, rfl, w3⟩ := open_int Tryd.underlying5 (hval 3 5 v3 rfl rfl) h3
  obtain ⟨a4, rfl, rfl, rfl⟩ := open_bool Tryd.underlying4 (hval 4 4 v4 rfl rfl) h4
  clear hA0 hval0
  refine (walk a0 a1 a2 a3 a4 W w0 w1 w2 w3 (pow_of_laid hL)).mono fun e W' ⟨he, bel⟩ => ?_
  subst he
  exact ⟨_, rfl, _, _, _, [], _, [], hW', trodAll_mk1 (shut_bool Tryd.underlying4 _), (trodAll_cons_mk (shut_int Tryd.underlying22 w0) (trodAll_cons_mk (shut_int Tryd.underlying22 w1) (trodAll_cons_mk (shut_int Tryd.underlying5 w2) (trodAll_cons_mk (shut_int Tryd.underlying5 w3) (trodAll_cons_mk (shut_bool Tryd.underlying4 _) trodAll_mk0))))), rfl, bel.frame _, fun h => by cases h⟩

theorem over : Rows.prefixHasRow.holds Tryd.pinned (OpenSpec.ofChange Rows.prefixHasSpec) :=
  OpenClaim.holds_of_wide 4 Tryd.f4 rfl rfl rfl rfl rfl rfl rfl ⟨rfl, rfl, rfl, rfl, rfl⟩ rfl rfl rfl rfl rfl (by kernel_rfl) Tryd.func4 (by kernel_rfl)
    (of_decide_eq_true (by kernel_rfl)) (by unfold Func.isWrapper; first | (rw [if_pos (by decide +kernel)]; kernel_rfl) | (rw [if_neg (by decide +kernel)]; exact ⟨rfl, rfl⟩))
    (fun os started H enc _ => lifted os started H enc)

theorem proved : Rows.PrefixHasCardSaid :=
  Claim7.holds_tied_plain_at .later [] [.data, .data, .data] true (true, "7cfdeb993fdfbec8b9b5e67db3be9459c695c22a0ecd678560527101ee5685f7") false
    over (fun _ h => by cases h) (by kernel_rfl) (fun _ h => by cases h) prefixHas_row_tie rfl ⟨rfl, rfl⟩ (by kernel_rfl) rfl
    (fun f fn hf hfn => by
      obtain rfl : f = 4 := Option.some.inj ((show Tryd.prog.funcNamed "milestone/milestonelaw01.PrefixHas" = some 4 by kernel_rfl).symm.trans hf) |>.symm
      obtain rfl : fn = Tryd.f4 := (Option.some.inj (Tryd.func4.symm.trans hfn)).symm
      exact ⟨by kernel_rfl, fun j t ht => by
        rw [Tryd.params4] at ht
        have hm : t ∈ [22, 22, 5, 5, 4] := by simpa using Array.mem_of_getElem? ht
        have hall : ([22, 22, 5, 5, 4].all fun u => !Tryd.prog.wantsStandIn u) = true := by kernel_rfl
        exact (show Tryd.prog.wantsStandIn t = false by simpa using List.all_eq_true.1 hall t hm)⟩)
    (by kernel_rfl)
#print axioms proved
end Go.Proofs.YtdfphpoakihkdaaDoor.prefixHas
