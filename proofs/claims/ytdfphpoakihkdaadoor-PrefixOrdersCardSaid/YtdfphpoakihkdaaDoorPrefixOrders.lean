/-
  'For every input the Go function milestonelaw01.PrefixOrders returns true, and each argument reads behind the call as it read before.'
  Conditions: none but the row's own (linux/amd64, sizes of what is read within the address space).
-/
import Derived.Test.YtdfphpoakihkdaaDoorRows
import Derived.WalkKit
import Derived.ProofKit
import Derived.OpenShut
import Derived.ShutString
import Derived.ChangeOld
import Derived.Below
import Derived.Lib.SmallJoins
import Derived.Lib.Hide
import Derived.Test.YtdfphpoakihkdaaDoorAw
import Derived.Test.YtdfphpoakihkdaaDoorCom
import Derived.Test.YtdfphpoakihkdaaDoorLaid
import Derived.Test.YtdfphpoakihkdaaDoorCards
import Derived.Test.YtdfphpoakihkdaaDoorTie
import Derived.SevenTiedAt
namespace Go.Proofs.YtdfphpoakihkdaaDoor.prefixOrders
open Pre
open Go.Sort
open Go.ChangeShapes Go.WideShapes Go.ChangeAt Go.RowKit
open Go.ChangeMaps (open_string shut_string)
set_option linter.unusedVariables false

theorem own : ownKnob Tryd.prog.godebug = none := by kernel_rfl
theorem laidOut : laidOutB Tryd.prog = true := by kernel_rfl

theorem ord1 (a n Q M : Nat) (h : within Q M (top a n) (len n) = true) : top a n ≤ Q ∧ len n ≤ M := by
  unfold within alike at h
  simp only [Bool.and_eq_true, decide_eq_true_eq, beq_iff_eq] at h
  obtain ⟨h1, h2⟩ := h
  rw [rest_len, top_div] at h2
  refine ⟨?_, h1⟩
  show a / 2 ^ rest n * 2 ^ rest n ≤ Q
  rw [h2]; exact Nat.div_mul_le_self _ _

set_option maxHeartbeats 4000000 in
theorem walk (a0 : Int) (a1 : Int) (a2 : Int) (a3 : Int) (a4 : Bool) (w : World) (w0 : (Lit.int .u32 a0).wf = true) (w1 : (Lit.int .u32 a1).wf = true) (w2 : (Lit.int .u8 a2).wf = true) (w3 : (Lit.int .u8 a3).wf = true) (hp : Pow w) :
    Calls Tryd.prog 5 #[.int .u32 a0, .int .u32 a1, .int .u8 a2, .int .u8 a3, .bool a4] w fun e w' => e = .returned (.bool true) ∧ Below w.heap.size w w' := by
  have b0 := bounds_u32 w0
  have b1 := bounds_u32 w1
  have b2 := bounds_u8 w2
  have b3 := bounds_u8 w3
  clear w0 w1 w2 w3
  obtain ⟨a, rfl⟩ := Int.eq_ofNat_of_zero_le b0.1
  obtain ⟨b, rfl⟩ := Int.eq_ofNat_of_zero_le b1.1
  obtain ⟨n, rfl⟩ := Int.eq_ofNat_of_zero_le b2.1
  obtain ⟨m, rfl⟩ := Int.eq_ofNat_of_zero_le b3.1
  have ha : a < 4294967296 := by omega
  have hb : b < 4294967296 := by omega
  have hn : n ≤ 255 := by omega
  have hm : m ≤ 255 := by omega
  clear b0 b1 b2 b3
  have hN := len_le n
  have hM := len_le m
  have hP := top_lt (a := a) (n := n) ha
  cases a4
  · have hQ := top_lt (a := b) (n := m) hb
    have hord := fun Q M => ord1 a n Q M
    go_enter Tryd.func5, Tryd.ntmps5
    go_wp2_with fail
    refine (rof_any a n ha hn _).mono ?_
    rintro e w1 ⟨rfl, hb1⟩
    generalize top a n = P at *
    generalize len n = N at *
    go_wp2_with fail
    refine (rof_any b m hb hm _).mono ?_
    rintro e w2 ⟨rfl, hb2⟩
    generalize top b m = Q at *
    generalize len m = M at *
    have z1 : w.heap.size ≤ w1.heap.size := hb1.size
    have hw1 : Below w.heap.size w (w1.alloc (.cells #[.int .u32 (P : Nat), .int .u8 (N : Nat)] 24)) := hb1.alloc z1 _
    have z2 : w1.heap.size + 1 ≤ w2.heap.size := by have := hb2.size; simpa using this
    obtain ⟨hc, _⟩ := bcell hb2
    have hw2 : Below w.heap.size w w2 := bstep hw1 hb2
    have d0 : (w2.alloc (.cells #[.int .u32 (Q : Nat), .int .u8 (M : Nat)] 24)).cell? ⟨w1.heap.size, 0, none⟩ = some (.int .u32 P) := by
      rw [World.cell?_alloc_past _ _ _ (by omega), hc _ _ (by simp)]; simp [go_sem]
    have d1 : (w2.alloc (.cells #[.int .u32 (Q : Nat), .int .u8 (M : Nat)] 24)).cell? ⟨w1.heap.size, 1, none⟩ = some (.int .u8 N) := by
      rw [World.cell?_alloc_past _ _ _ (by omega), hc _ _ (by simp)]; simp [go_sem]
    have d2 : (w2.alloc (.cells #[.int .u32 (Q : Nat), .int .u8 (M : Nat)] 24)).cell? ⟨w2.heap.size, 0, none⟩ = some (.int .u32 Q) := by simp [go_sem]
    have d3 : (w2.alloc (.cells #[.int .u32 (Q : Nat), .int .u8 (M : Nat)] 24)).cell? ⟨w2.heap.size, 1, none⟩ = some (.int .u8 M) := by simp [go_sem]
    have hW : Below w.heap.size w (w2.alloc (.cells #[.int .u32 (Q : Nat), .int .u8 (M : Nat)] 24)) := hw2.alloc (by omega) _
    have hpW : Pow (w2.alloc (.cells #[.int .u32 (Q : Nat), .int .u8 (M : Nat)] 24)) := pow_below hp hW (pow_size hp)
    go_wp2_with fail
    generalize w2.alloc (.cells #[.int .u32 (Q : Nat), .int .u8 (M : Nat)] 24) = W at *
    generalize w1.heap.size = g1 at *
    generalize w2.heap.size = g2 at *
    clear hc hb1 hb2 hw1 hw2
    obtain ⟨V, dv, ov, hdo, e0, e1, e2, e3, hW', hpW'⟩ : ∃ V dv ov, W = grow (redrawn V dv) ov ∧ V.cell? ⟨g1, 0, none⟩ = some (.int .u32 P) ∧ V.cell? ⟨g1, 1, none⟩ = some (.int .u8 N) ∧ V.cell? ⟨g2, 0, none⟩ = some (.int .u32 Q) ∧ V.cell? ⟨g2, 1, none⟩ = some (.int .u8 M) ∧ Below w.heap.size w V ∧ Pow V := ⟨W, W.drawn, #[], by rw [grow_empty]; rfl, d0, d1, d2, d3, hW, hpW⟩
    clear d0 d1 d2 d3 hW hpW
    subst hdo
    have k0 := cell_regrown e0
    have k1 := cell_regrown e1
    have k2 := cell_regrown e2
    have k3 := cell_regrown e3
    clear e0 e1 e2 e3
    replace hord := hord Q M
    rcases Nat.lt_trichotomy P Q with hpq | hpq | hpq
    · have cA : ∀ d os, Calls Tryd.prog 11 #[] (grow (redrawn V d) os) fun e w'' => e = .returned (.bool true) ∧ ∃ p : Regrown, w'' = grow (redrawn V p.d) p.os := fun d os => Calls.regrown_of (awake_any _ (pow_below hpW' (below_regrown V d os) (pow_size hpW')))
      have c1 : ∀ d os, Calls Tryd.prog 18 #[.agg #[.int .u32 (P : Nat), .int .u8 (N : Nat)], .agg #[.int .u32 (Q : Nat), .int .u8 (M : Nat)]] (grow (redrawn V d) os) fun e w'' => e = .returned (.int .i64 (-1)) ∧ ∃ p : Regrown, w'' = grow (redrawn V p.d) p.os := fun d os => Calls.regrown_of (by rw [show ((-1) : Int) = cmpP P N Q M by simp [cmpP, cmpV, orV, hpq]]; exact compare_any P N Q M _)
      have c2 : ∀ d os, Calls Tryd.prog 18 #[.agg #[.int .u32 (Q : Nat), .int .u8 (M : Nat)], .agg #[.int .u32 (P : Nat), .int .u8 (N : Nat)]] (grow (redrawn V d) os) fun e w'' => e = .returned (.int .i64 1) ∧ ∃ p : Regrown, w'' = grow (redrawn V p.d) p.os := fun d os => Calls.regrown_of (by rw [show (1 : Int) = cmpP Q M P N by simp [cmpP, cmpV, orV, hpq, Nat.lt_asymm hpq]]; exact compare_any Q M P N _)
      have cH : ∀ d os, Calls Tryd.prog 19 #[.agg #[.int .u32 (P : Nat), .int .u8 (N : Nat)], .agg #[.int .u32 (Q : Nat), .int .u8 (M : Nat)]] (grow (redrawn V d) os) fun e w'' => e = .returned (.bool true) ∧ ∃ p : Regrown, w'' = grow (redrawn V p.d) p.os := fun d os => Calls.regrown_of (by rw [show true = (decide (P < Q) || (P == Q && decide (N < M))) by simp [hpq]]; exact ahead_any P N Q M _)
      generalize hx : within Q M P N = x
      have cW : ∀ d os, Calls Tryd.prog 17 #[.agg #[.int .u32 (Q : Nat), .int .u8 (M : Nat)], .agg #[.int .u32 (P : Nat), .int .u8 (N : Nat)]] (grow (redrawn V d) os) fun e w'' => e = .returned (.bool x) ∧ ∃ p : Regrown, w'' = grow (redrawn V p.d) p.os := fun d os => Calls.regrown_of (by rw [← hx]; exact within_any Q M P N hQ (by omega) hP (by omega) _)
      clear hx hord
      have hb1 : ((P : Int) == (Q : Int)) = false := by simp; omega
      cases x
      · go_wp2_with (first
          | (go_at_call 11; refine (cA _ _).mono ?_; rintro e w' ⟨rfl, ⟨d', o'⟩, rfl⟩)
          | (go_at_call 18; ((with_reducible refine (c1 _ _).mono ?_); rintro e w' ⟨rfl, ⟨d', o'⟩, rfl⟩))
          | (go_at_call 18; ((with_reducible refine (c2 _ _).mono ?_); rintro e w' ⟨rfl, ⟨d', o'⟩, rfl⟩))
          | (go_at_call 19; refine (cH _ _).mono ?_; rintro e w' ⟨rfl, ⟨d', o'⟩, rfl⟩)
          | (go_at_call 17; refine (cW _ _).mono ?_; rintro e w' ⟨rfl, ⟨d', o'⟩, rfl⟩))
        go_ret
        exact ⟨rfl, bstep hW' (below_regrown V _ _)⟩
      · go_wp2_with (first
          | (go_at_call 11; refine (cA _ _).mono ?_; rintro e w' ⟨rfl, ⟨d', o'⟩, rfl⟩)
          | (go_at_call 18; ((with_reducible refine (c1 _ _).mono ?_); rintro e w' ⟨rfl, ⟨d', o'⟩, rfl⟩))
          | (go_at_call 18; ((with_reducible refine (c2 _ _).mono ?_); rintro e w' ⟨rfl, ⟨d', o'⟩, rfl⟩))
          | (go_at_call 19; refine (cH _ _).mono ?_; rintro e w' ⟨rfl, ⟨d', o'⟩, rfl⟩)
          | (go_at_call 17; refine (cW _ _).mono ?_; rintro e w' ⟨rfl, ⟨d', o'⟩, rfl⟩))
        go_ret
        exact ⟨rfl, bstep hW' (below_regrown V _ _)⟩
    · rcases Nat.lt_trichotomy N M with hnm | hnm | hnm
      · subst hpq
        have cA : ∀ d os, Calls Tryd.prog 11 #[] (grow (redrawn V d) os) fun e w'' => e = .returned (.bool true) ∧ ∃ p : Regrown, w'' = grow (redrawn V p.d) p.os := fun d os => Calls.regrown_of (awake_any _ (pow_below hpW' (below_regrown V d os) (pow_size hpW')))
        have c1 : ∀ d os, Calls Tryd.prog 18 #[.agg #[.int .u32 (P : Nat), .int .u8 (N : Nat)], .agg #[.int .u32 (P : Nat), .int .u8 (M : Nat)]] (grow (redrawn V d) os) fun e w'' => e = .returned (.int .i64 (-1)) ∧ ∃ p : Regrown, w'' = grow (redrawn V p.d) p.os := fun d os => Calls.regrown_of (by rw [show ((-1) : Int) = cmpP P N P M by simp [cmpP, cmpV, orV, hnm]]; exact compare_any P N P M _)
        have c2 : ∀ d os, Calls Tryd.prog 18 #[.agg #[.int .u32 (P : Nat), .int .u8 (M : Nat)], .agg #[.int .u32 (P : Nat), .int .u8 (N : Nat)]] (grow (redrawn V d) os) fun e w'' => e = .returned (.int .i64 1) ∧ ∃ p : Regrown, w'' = grow (redrawn V p.d) p.os := fun d os => Calls.regrown_of (by rw [show (1 : Int) = cmpP P M P N by simp [cmpP, cmpV, orV, hnm, Nat.lt_asymm hnm]]; exact compare_any P M P N _)
        have cH : ∀ d os, Calls Tryd.prog 19 #[.agg #[.int .u32 (P : Nat), .int .u8 (N : Nat)], .agg #[.int .u32 (P : Nat), .int .u8 (M : Nat)]] (grow (redrawn V d) os) fun e w'' => e = .returned (.bool true) ∧ ∃ p : Regrown, w'' = grow (redrawn V p.d) p.os := fun d os => Calls.regrown_of (by rw [show true = (decide (P < P) || (P == P && decide (N < M))) by simp [hnm]]; exact ahead_any P N P M _)
        generalize hx : within P M P N = x
        have cW : ∀ d os, Calls Tryd.prog 17 #[.agg #[.int .u32 (P : Nat), .int .u8 (M : Nat)], .agg #[.int .u32 (P : Nat), .int .u8 (N : Nat)]] (grow (redrawn V d) os) fun e w'' => e = .returned (.bool x) ∧ ∃ p : Regrown, w'' = grow (redrawn V p.d) p.os := fun d os => Calls.regrown_of (by rw [← hx]; exact within_any P M P N hQ (by omega) hP (by omega) _)
        clear hx hord
        have hb1 : ((N : Int) == (M : Int)) = false := by simp; omega
        cases x
        · go_wp2_with (first
            | (go_at_call 11; refine (cA _ _).mono ?_; rintro e w' ⟨rfl, ⟨d', o'⟩, rfl⟩)
            | (go_at_call 18; ((with_reducible refine (c1 _ _).mono ?_); rintro e w' ⟨rfl, ⟨d', o'⟩, rfl⟩))
            | (go_at_call 18; ((with_reducible refine (c2 _ _).mono ?_); rintro e w' ⟨rfl, ⟨d', o'⟩, rfl⟩))
            | (go_at_call 19; refine (cH _ _).mono ?_; rintro e w' ⟨rfl, ⟨d', o'⟩, rfl⟩)
            | (go_at_call 17; refine (cW _ _).mono ?_; rintro e w' ⟨rfl, ⟨d', o'⟩, rfl⟩))
          go_ret
          exact ⟨rfl, bstep hW' (below_regrown V _ _)⟩
        · go_wp2_with (first
            | (go_at_call 11; refine (cA _ _).mono ?_; rintro e w' ⟨rfl, ⟨d', o'⟩, rfl⟩)
            | (go_at_call 18; ((with_reducible refine (c1 _ _).mono ?_); rintro e w' ⟨rfl, ⟨d', o'⟩, rfl⟩))
            | (go_at_call 18; ((with_reducible refine (c2 _ _).mono ?_); rintro e w' ⟨rfl, ⟨d', o'⟩, rfl⟩))
            | (go_at_call 19; refine (cH _ _).mono ?_; rintro e w' ⟨rfl, ⟨d', o'⟩, rfl⟩)
            | (go_at_call 17; refine (cW _ _).mono ?_; rintro e w' ⟨rfl, ⟨d', o'⟩, rfl⟩))
          go_ret
          exact ⟨rfl, bstep hW' (below_regrown V _ _)⟩
      · subst hpq
        subst hnm
        have cA : ∀ d os, Calls Tryd.prog 11 #[] (grow (redrawn V d) os) fun e w'' => e = .returned (.bool true) ∧ ∃ p : Regrown, w'' = grow (redrawn V p.d) p.os := fun d os => Calls.regrown_of (awake_any _ (pow_below hpW' (below_regrown V d os) (pow_size hpW')))
        have c1 : ∀ d os, Calls Tryd.prog 18 #[.agg #[.int .u32 (P : Nat), .int .u8 (N : Nat)], .agg #[.int .u32 (P : Nat), .int .u8 (N : Nat)]] (grow (redrawn V d) os) fun e w'' => e = .returned (.int .i64 0) ∧ ∃ p : Regrown, w'' = grow (redrawn V p.d) p.os := fun d os => Calls.regrown_of (by rw [show (0 : Int) = cmpP P N P N by simp [cmpP, cmpV, orV]]; exact compare_any P N P N _)
        have cH : ∀ d os, Calls Tryd.prog 19 #[.agg #[.int .u32 (P : Nat), .int .u8 (N : Nat)], .agg #[.int .u32 (P : Nat), .int .u8 (N : Nat)]] (grow (redrawn V d) os) fun e w'' => e = .returned (.bool false) ∧ ∃ p : Regrown, w'' = grow (redrawn V p.d) p.os := fun d os => Calls.regrown_of (by rw [show false = (decide (P < P) || (P == P && decide (N < N))) by simp]; exact ahead_any P N P N _)
        have hx : within P N P N = true := by simp [within, alike]
        have cW : ∀ d os, Calls Tryd.prog 17 #[.agg #[.int .u32 (P : Nat), .int .u8 (N : Nat)], .agg #[.int .u32 (P : Nat), .int .u8 (N : Nat)]] (grow (redrawn V d) os) fun e w'' => e = .returned (.bool true) ∧ ∃ p : Regrown, w'' = grow (redrawn V p.d) p.os := fun d os => Calls.regrown_of (by rw [← hx]; exact within_any P N P N hQ (by omega) hP (by omega) _)
        clear hx hord
        go_wp2_with (first
          | (go_at_call 11; refine (cA _ _).mono ?_; rintro e w' ⟨rfl, ⟨d', o'⟩, rfl⟩)
          | (go_at_call 18; ((with_reducible refine (c1 _ _).mono ?_); rintro e w' ⟨rfl, ⟨d', o'⟩, rfl⟩))
          | (go_at_call 19; refine (cH _ _).mono ?_; rintro e w' ⟨rfl, ⟨d', o'⟩, rfl⟩)
          | (go_at_call 17; refine (cW _ _).mono ?_; rintro e w' ⟨rfl, ⟨d', o'⟩, rfl⟩))
        go_ret
        exact ⟨rfl, bstep hW' (below_regrown V _ _)⟩
      · subst hpq
        have cA : ∀ d os, Calls Tryd.prog 11 #[] (grow (redrawn V d) os) fun e w'' => e = .returned (.bool true) ∧ ∃ p : Regrown, w'' = grow (redrawn V p.d) p.os := fun d os => Calls.regrown_of (awake_any _ (pow_below hpW' (below_regrown V d os) (pow_size hpW')))
        have c1 : ∀ d os, Calls Tryd.prog 18 #[.agg #[.int .u32 (P : Nat), .int .u8 (N : Nat)], .agg #[.int .u32 (P : Nat), .int .u8 (M : Nat)]] (grow (redrawn V d) os) fun e w'' => e = .returned (.int .i64 1) ∧ ∃ p : Regrown, w'' = grow (redrawn V p.d) p.os := fun d os => Calls.regrown_of (by rw [show (1 : Int) = cmpP P N P M by simp [cmpP, cmpV, orV, hnm, Nat.lt_asymm hnm]]; exact compare_any P N P M _)
        have c2 : ∀ d os, Calls Tryd.prog 18 #[.agg #[.int .u32 (P : Nat), .int .u8 (M : Nat)], .agg #[.int .u32 (P : Nat), .int .u8 (N : Nat)]] (grow (redrawn V d) os) fun e w'' => e = .returned (.int .i64 (-1)) ∧ ∃ p : Regrown, w'' = grow (redrawn V p.d) p.os := fun d os => Calls.regrown_of (by rw [show ((-1) : Int) = cmpP P M P N by simp [cmpP, cmpV, orV, hnm]]; exact compare_any P M P N _)
        have cH : ∀ d os, Calls Tryd.prog 19 #[.agg #[.int .u32 (P : Nat), .int .u8 (N : Nat)], .agg #[.int .u32 (P : Nat), .int .u8 (M : Nat)]] (grow (redrawn V d) os) fun e w'' => e = .returned (.bool false) ∧ ∃ p : Regrown, w'' = grow (redrawn V p.d) p.os := fun d os => Calls.regrown_of (by rw [show false = (decide (P < P) || (P == P && decide (N < M))) by simp; omega]; exact ahead_any P N P M _)
        have hx : within P M P N = false := by
          cases h : within P M P N
          · rfl
          · have := hord h; omega
        have cW : ∀ d os, Calls Tryd.prog 17 #[.agg #[.int .u32 (P : Nat), .int .u8 (M : Nat)], .agg #[.int .u32 (P : Nat), .int .u8 (N : Nat)]] (grow (redrawn V d) os) fun e w'' => e = .returned (.bool false) ∧ ∃ p : Regrown, w'' = grow (redrawn V p.d) p.os := fun d os => Calls.regrown_of (by rw [← hx]; exact within_any P M P N hQ (by omega) hP (by omega) _)
        clear hx hord
        have hb1 : ((N : Int) == (M : Int)) = false := by simp; omega
        go_wp2_with (first
          | (go_at_call 11; refine (cA _ _).mono ?_; rintro e w' ⟨rfl, ⟨d', o'⟩, rfl⟩)
          | (go_at_call 18; ((with_reducible refine (c1 _ _).mono ?_); rintro e w' ⟨rfl, ⟨d', o'⟩, rfl⟩))
          | (go_at_call 18; ((with_reducible refine (c2 _ _).mono ?_); rintro e w' ⟨rfl, ⟨d', o'⟩, rfl⟩))
          | (go_at_call 19; refine (cH _ _).mono ?_; rintro e w' ⟨rfl, ⟨d', o'⟩, rfl⟩)
          | (go_at_call 17; refine (cW _ _).mono ?_; rintro e w' ⟨rfl, ⟨d', o'⟩, rfl⟩))
        go_ret
        exact ⟨rfl, bstep hW' (below_regrown V _ _)⟩
    · have cA : ∀ d os, Calls Tryd.prog 11 #[] (grow (redrawn V d) os) fun e w'' => e = .returned (.bool true) ∧ ∃ p : Regrown, w'' = grow (redrawn V p.d) p.os := fun d os => Calls.regrown_of (awake_any _ (pow_below hpW' (below_regrown V d os) (pow_size hpW')))
      have c1 : ∀ d os, Calls Tryd.prog 18 #[.agg #[.int .u32 (P : Nat), .int .u8 (N : Nat)], .agg #[.int .u32 (Q : Nat), .int .u8 (M : Nat)]] (grow (redrawn V d) os) fun e w'' => e = .returned (.int .i64 1) ∧ ∃ p : Regrown, w'' = grow (redrawn V p.d) p.os := fun d os => Calls.regrown_of (by rw [show (1 : Int) = cmpP P N Q M by simp [cmpP, cmpV, orV, hpq, Nat.lt_asymm hpq]]; exact compare_any P N Q M _)
      have c2 : ∀ d os, Calls Tryd.prog 18 #[.agg #[.int .u32 (Q : Nat), .int .u8 (M : Nat)], .agg #[.int .u32 (P : Nat), .int .u8 (N : Nat)]] (grow (redrawn V d) os) fun e w'' => e = .returned (.int .i64 (-1)) ∧ ∃ p : Regrown, w'' = grow (redrawn V p.d) p.os := fun d os => Calls.regrown_of (by rw [show ((-1) : Int) = cmpP Q M P N by simp [cmpP, cmpV, orV, hpq]]; exact compare_any Q M P N _)
      have cH : ∀ d os, Calls Tryd.prog 19 #[.agg #[.int .u32 (P : Nat), .int .u8 (N : Nat)], .agg #[.int .u32 (Q : Nat), .int .u8 (M : Nat)]] (grow (redrawn V d) os) fun e w'' => e = .returned (.bool false) ∧ ∃ p : Regrown, w'' = grow (redrawn V p.d) p.os := fun d os => Calls.regrown_of (by rw [show false = (decide (P < Q) || (P == Q && decide (N < M))) by simp; omega]; exact ahead_any P N Q M _)
      have hx : within Q M P N = false := by
        cases h : within Q M P N
        · rfl
        · have := hord h; omega
      have cW : ∀ d os, Calls Tryd.prog 17 #[.agg #[.int .u32 (Q : Nat), .int .u8 (M : Nat)], .agg #[.int .u32 (P : Nat), .int .u8 (N : Nat)]] (grow (redrawn V d) os) fun e w'' => e = .returned (.bool false) ∧ ∃ p : Regrown, w'' = grow (redrawn V p.d) p.os := fun d os => Calls.regrown_of (by rw [← hx]; exact within_any Q M P N hQ (by omega) hP (by omega) _)
      clear hx hord
      have hb1 : ((P : Int) == (Q : Int)) = false := by simp; omega
      go_wp2_with (first
        | (go_at_call 11; refine (cA _ _).mono ?_; rintro e w' ⟨rfl, ⟨d', o'⟩, rfl⟩)
        | (go_at_call 18; ((with_reducible refine (c1 _ _).mono ?_); rintro e w' ⟨rfl, ⟨d', o'⟩, rfl⟩))
        | (go_at_call 18; ((with_reducible refine (c2 _ _).mono ?_); rintro e w' ⟨rfl, ⟨d', o'⟩, rfl⟩))
        | (go_at_call 19; refine (cH _ _).mono ?_; rintro e w' ⟨rfl, ⟨d', o'⟩, rfl⟩)
        | (go_at_call 17; refine (cW _ _).mono ?_; rintro e w' ⟨rfl, ⟨d', o'⟩, rfl⟩))
      go_ret
      exact ⟨rfl, bstep hW' (below_regrown V _ _)⟩
  · have hQ := top_lt (a := a) (n := m) ha
    have hord := fun Q M => ord1 a n Q M
    go_enter Tryd.func5, Tryd.ntmps5
    go_wp2_with fail
    refine (rof_any a n ha hn _).mono ?_
    rintro e w1 ⟨rfl, hb1⟩
    generalize top a n = P at *
    generalize len n = N at *
    go_wp2_with fail
    refine (rof_any a m ha hm _).mono ?_
    rintro e w2 ⟨rfl, hb2⟩
    generalize top a m = Q at *
    generalize len m = M at *
    have z1 : w.heap.size ≤ w1.heap.size := hb1.size
    have hw1 : Below w.heap.size w (w1.alloc (.cells #[.int .u32 (P : Nat), .int .u8 (N : Nat)] 24)) := hb1.alloc z1 _
    have z2 : w1.heap.size + 1 ≤ w2.heap.size := by have := hb2.size; simpa using this
    obtain ⟨hc, _⟩ := bcell hb2
    have hw2 : Below w.heap.size w w2 := bstep hw1 hb2
    have d0 : (w2.alloc (.cells #[.int .u32 (Q : Nat), .int .u8 (M : Nat)] 24)).cell? ⟨w1.heap.size, 0, none⟩ = some (.int .u32 P) := by
      rw [World.cell?_alloc_past _ _ _ (by omega), hc _ _ (by simp)]; simp [go_sem]
    have d1 : (w2.alloc (.cells #[.int .u32 (Q : Nat), .int .u8 (M : Nat)] 24)).cell? ⟨w1.heap.size, 1, none⟩ = some (.int .u8 N) := by
      rw [World.cell?_alloc_past _ _ _ (by omega), hc _ _ (by simp)]; simp [go_sem]
    have d2 : (w2.alloc (.cells #[.int .u32 (Q : Nat), .int .u8 (M : Nat)] 24)).cell? ⟨w2.heap.size, 0, none⟩ = some (.int .u32 Q) := by simp [go_sem]
    have d3 : (w2.alloc (.cells #[.int .u32 (Q : Nat), .int .u8 (M : Nat)] 24)).cell? ⟨w2.heap.size, 1, none⟩ = some (.int .u8 M) := by simp [go_sem]
    have hW : Below w.heap.size w (w2.alloc (.cells #[.int .u32 (Q : Nat), .int .u8 (M : Nat)] 24)) := hw2.alloc (by omega) _
    have hpW : Pow (w2.alloc (.cells #[.int .u32 (Q : Nat), .int .u8 (M : Nat)] 24)) := pow_below hp hW (pow_size hp)
    go_wp2_with fail
    generalize w2.alloc (.cells #[.int .u32 (Q : Nat), .int .u8 (M : Nat)] 24) = W at *
    generalize w1.heap.size = g1 at *
    generalize w2.heap.size = g2 at *
    clear hc hb1 hb2 hw1 hw2
    obtain ⟨V, dv, ov, hdo, e0, e1, e2, e3, hW', hpW'⟩ : ∃ V dv ov, W = grow (redrawn V dv) ov ∧ V.cell? ⟨g1, 0, none⟩ = some (.int .u32 P) ∧ V.cell? ⟨g1, 1, none⟩ = some (.int .u8 N) ∧ V.cell? ⟨g2, 0, none⟩ = some (.int .u32 Q) ∧ V.cell? ⟨g2, 1, none⟩ = some (.int .u8 M) ∧ Below w.heap.size w V ∧ Pow V := ⟨W, W.drawn, #[], by rw [grow_empty]; rfl, d0, d1, d2, d3, hW, hpW⟩
    clear d0 d1 d2 d3 hW hpW
    subst hdo
    have k0 := cell_regrown e0
    have k1 := cell_regrown e1
    have k2 := cell_regrown e2
    have k3 := cell_regrown e3
    clear e0 e1 e2 e3
    replace hord := hord Q M
    rcases Nat.lt_trichotomy P Q with hpq | hpq | hpq
    · have cA : ∀ d os, Calls Tryd.prog 11 #[] (grow (redrawn V d) os) fun e w'' => e = .returned (.bool true) ∧ ∃ p : Regrown, w'' = grow (redrawn V p.d) p.os := fun d os => Calls.regrown_of (awake_any _ (pow_below hpW' (below_regrown V d os) (pow_size hpW')))
      have c1 : ∀ d os, Calls Tryd.prog 18 #[.agg #[.int .u32 (P : Nat), .int .u8 (N : Nat)], .agg #[.int .u32 (Q : Nat), .int .u8 (M : Nat)]] (grow (redrawn V d) os) fun e w'' => e = .returned (.int .i64 (-1)) ∧ ∃ p : Regrown, w'' = grow (redrawn V p.d) p.os := fun d os => Calls.regrown_of (by rw [show ((-1) : Int) = cmpP P N Q M by simp [cmpP, cmpV, orV, hpq]]; exact compare_any P N Q M _)
      have c2 : ∀ d os, Calls Tryd.prog 18 #[.agg #[.int .u32 (Q : Nat), .int .u8 (M : Nat)], .agg #[.int .u32 (P : Nat), .int .u8 (N : Nat)]] (grow (redrawn V d) os) fun e w'' => e = .returned (.int .i64 1) ∧ ∃ p : Regrown, w'' = grow (redrawn V p.d) p.os := fun d os => Calls.regrown_of (by rw [show (1 : Int) = cmpP Q M P N by simp [cmpP, cmpV, orV, hpq, Nat.lt_asymm hpq]]; exact compare_any Q M P N _)
      have cH : ∀ d os, Calls Tryd.prog 19 #[.agg #[.int .u32 (P : Nat), .int .u8 (N : Nat)], .agg #[.int .u32 (Q : Nat), .int .u8 (M : Nat)]] (grow (redrawn V d) os) fun e w'' => e = .returned (.bool true) ∧ ∃ p : Regrown, w'' = grow (redrawn V p.d) p.os := fun d os => Calls.regrown_of (by rw [show true = (decide (P < Q) || (P == Q && decide (N < M))) by simp [hpq]]; exact ahead_any P N Q M _)
      generalize hx : within Q M P N = x
      have cW : ∀ d os, Calls Tryd.prog 17 #[.agg #[.int .u32 (Q : Nat), .int .u8 (M : Nat)], .agg #[.int .u32 (P : Nat), .int .u8 (N : Nat)]] (grow (redrawn V d) os) fun e w'' => e = .returned (.bool x) ∧ ∃ p : Regrown, w'' = grow (redrawn V p.d) p.os := fun d os => Calls.regrown_of (by rw [← hx]; exact within_any Q M P N hQ (by omega) hP (by omega) _)
      clear hx hord
      have hb1 : ((P : Int) == (Q : Int)) = false := by simp; omega
      cases x
      · go_wp2_with (first
          | (go_at_call 11; refine (cA _ _).mono ?_; rintro e w' ⟨rfl, ⟨d', o'⟩, rfl⟩)
          | (go_at_call 18; ((with_reducible refine (c1 _ _).mono ?_); rintro e w' ⟨rfl, ⟨d', o'⟩, rfl⟩))
          | (go_at_call 18; ((with_reducible refine (c2 _ _).mono ?_); rintro e w' ⟨rfl, ⟨d', o'⟩, rfl⟩))
          | (go_at_call 19; refine (cH _ _).mono ?_; rintro e w' ⟨rfl, ⟨d', o'⟩, rfl⟩)
          | (go_at_call 17; refine (cW _ _).mono ?_; rintro e w' ⟨rfl, ⟨d', o'⟩, rfl⟩))
        go_ret
        exact ⟨rfl, bstep hW' (below_regrown V _ _)⟩
      · go_wp2_with (first
          | (go_at_call 11; refine (cA _ _).mono ?_; rintro e w' ⟨rfl, ⟨d', o'⟩, rfl⟩)
          | (go_at_call 18; ((with_reducible refine (c1 _ _).mono ?_); rintro e w' ⟨rfl, ⟨d', o'⟩, rfl⟩))
          | (go_at_call 18; ((with_reducible refine (c2 _ _).mono ?_); rintro e w' ⟨rfl, ⟨d', o'⟩, rfl⟩))
          | (go_at_call 19; refine (cH _ _).mono ?_; rintro e w' ⟨rfl, ⟨d', o'⟩, rfl⟩)
          | (go_at_call 17; refine (cW _ _).mono ?_; rintro e w' ⟨rfl, ⟨d', o'⟩, rfl⟩))
        go_ret
        exact ⟨rfl, bstep hW' (below_regrown V _ _)⟩
    · rcases Nat.lt_trichotomy N M with hnm | hnm | hnm
      · subst hpq
        have cA : ∀ d os, Calls Tryd.prog 11 #[] (grow (redrawn V d) os) fun e w'' => e = .returned (.bool true) ∧ ∃ p : Regrown, w'' = grow (redrawn V p.d) p.os := fun d os => Calls.regrown_of (awake_any _ (pow_below hpW' (below_regrown V d os) (pow_size hpW')))
        have c1 : ∀ d os, Calls Tryd.prog 18 #[.agg #[.int .u32 (P : Nat), .int .u8 (N : Nat)], .agg #[.int .u32 (P : Nat), .int .u8 (M : Nat)]] (grow (redrawn V d) os) fun e w'' => e = .returned (.int .i64 (-1)) ∧ ∃ p : Regrown, w'' = grow (redrawn V p.d) p.os := fun d os => Calls.regrown_of (by rw [show ((-1) : Int) = cmpP P N P M by simp [cmpP, cmpV, orV, hnm]]; exact compare_any P N P M _)
        have c2 : ∀ d os, Calls Tryd.prog 18 #[.agg #[.int .u32 (P : Nat), .int .u8 (M : Nat)], .agg #[.int .u32 (P : Nat), .int .u8 (N : Nat)]] (grow (redrawn V d) os) fun e w'' => e = .returned (.int .i64 1) ∧ ∃ p : Regrown, w'' = grow (redrawn V p.d) p.os := fun d os => Calls.regrown_of (by rw [show (1 : Int) = cmpP P M P N by simp [cmpP, cmpV, orV, hnm, Nat.lt_asymm hnm]]; exact compare_any P M P N _)
        have cH : ∀ d os, Calls Tryd.prog 19 #[.agg #[.int .u32 (P : Nat), .int .u8 (N : Nat)], .agg #[.int .u32 (P : Nat), .int .u8 (M : Nat)]] (grow (redrawn V d) os) fun e w'' => e = .returned (.bool true) ∧ ∃ p : Regrown, w'' = grow (redrawn V p.d) p.os := fun d os => Calls.regrown_of (by rw [show true = (decide (P < P) || (P == P && decide (N < M))) by simp [hnm]]; exact ahead_any P N P M _)
        generalize hx : within P M P N = x
        have cW : ∀ d os, Calls Tryd.prog 17 #[.agg #[.int .u32 (P : Nat), .int .u8 (M : Nat)], .agg #[.int .u32 (P : Nat), .int .u8 (N : Nat)]] (grow (redrawn V d) os) fun e w'' => e = .returned (.bool x) ∧ ∃ p : Regrown, w'' = grow (redrawn V p.d) p.os := fun d os => Calls.regrown_of (by rw [← hx]; exact within_any P M P N hQ (by omega) hP (by omega) _)
        clear hx hord
        have hb1 : ((N : Int) == (M : Int)) = false := by simp; omega
        cases x
        · go_wp2_with (first
            | (go_at_call 11; refine (cA _ _).mono ?_; rintro e w' ⟨rfl, ⟨d', o'⟩, rfl⟩)
            | (go_at_call 18; ((with_reducible refine (c1 _ _).mono ?_); rintro e w' ⟨rfl, ⟨d', o'⟩, rfl⟩))
            | (go_at_call 18; ((with_reducible refine (c2 _ _).mono ?_); rintro e w' ⟨rfl, ⟨d', o'⟩, rfl⟩))
            | (go_at_call 19; refine (cH _ _).mono ?_; rintro e w' ⟨rfl, ⟨d', o'⟩, rfl⟩)
            | (go_at_call 17; refine (cW _ _).mono ?_; rintro e w' ⟨rfl, ⟨d', o'⟩, rfl⟩))
          go_ret
          exact ⟨rfl, bstep hW' (below_regrown V _ _)⟩
        · go_wp2_with (first
            | (go_at_call 11; refine (cA _ _).mono ?_; rintro e w' ⟨rfl, ⟨d', o'⟩, rfl⟩)
            | (go_at_call 18; ((with_reducible refine (c1 _ _).mono ?_); rintro e w' ⟨rfl, ⟨d', o'⟩, rfl⟩))
            | (go_at_call 18; ((with_reducible refine (c2 _ _).mono ?_); rintro e w' ⟨rfl, ⟨d', o'⟩, rfl⟩))
            | (go_at_call 19; refine (cH _ _).mono ?_; rintro e w' ⟨rfl, ⟨d', o'⟩, rfl⟩)
            | (go_at_call 17; refine (cW _ _).mono ?_; rintro e w' ⟨rfl, ⟨d', o'⟩, rfl⟩))
          go_ret
          exact ⟨rfl, bstep hW' (below_regrown V _ _)⟩
      · subst hpq
        subst hnm
        have cA : ∀ d os, Calls Tryd.prog 11 #[] (grow (redrawn V d) os) fun e w'' => e = .returned (.bool true) ∧ ∃ p : Regrown, w'' = grow (redrawn V p.d) p.os := fun d os => Calls.regrown_of (awake_any _ (pow_below hpW' (below_regrown V d os) (pow_size hpW')))
        have c1 : ∀ d os, Calls Tryd.prog 18 #[.agg #[.int .u32 (P : Nat), .int .u8 (N : Nat)], .agg #[.int .u32 (P : Nat), .int .u8 (N : Nat)]] (grow (redrawn V d) os) fun e w'' => e = .returned (.int .i64 0) ∧ ∃ p : Regrown, w'' = grow (redrawn V p.d) p.os := fun d os => Calls.regrown_of (by rw [show (0 : Int) = cmpP P N P N by simp [cmpP, cmpV, orV]]; exact compare_any P N P N _)
        have cH : ∀ d os, Calls Tryd.prog 19 #[.agg #[.int .u32 (P : Nat), .int .u8 (N : Nat)], .agg #[.int .u32 (P : Nat), .int .u8 (N : Nat)]] (grow (redrawn V d) os) fun e w'' => e = .returned (.bool false) ∧ ∃ p : Regrown, w'' = grow (redrawn V p.d) p.os := fun d os => Calls.regrown_of (by rw [show false = (decide (P < P) || (P == P && decide (N < N))) by simp]; exact ahead_any P N P N _)
        have hx : within P N P N = true := by simp [within, alike]
        have cW : ∀ d os, Calls Tryd.prog 17 #[.agg #[.int .u32 (P : Nat), .int .u8 (N : Nat)], .agg #[.int .u32 (P : Nat), .int .u8 (N : Nat)]] (grow (redrawn V d) os) fun e w'' => e = .returned (.bool true) ∧ ∃ p : Regrown, w'' = grow (redrawn V p.d) p.os := fun d os => Calls.regrown_of (by rw [← hx]; exact within_any P N P N hQ (by omega) hP (by omega) _)
        clear hx hord
        go_wp2_with (first
          | (go_at_call 11; refine (cA _ _).mono ?_; rintro e w' ⟨rfl, ⟨d', o'⟩, rfl⟩)
          | (go_at_call 18; ((with_reducible refine (c1 _ _).mono ?_); rintro e w' ⟨rfl, ⟨d', o'⟩, rfl⟩))
          | (go_at_call 19; refine (cH _ _).mono ?_; rintro e w' ⟨rfl, ⟨d', o'⟩, rfl⟩)
          | (go_at_call 17; refine (cW _ _).mono ?_; rintro e w' ⟨rfl, ⟨d', o'⟩, rfl⟩))
        go_ret
        exact ⟨rfl, bstep hW' (below_regrown V _ _)⟩
      · subst hpq
        have cA : ∀ d os, Calls Tryd.prog 11 #[] (grow (redrawn V d) os) fun e w'' => e = .returned (.bool true) ∧ ∃ p : Regrown, w'' = grow (redrawn V p.d) p.os := fun d os => Calls.regrown_of (awake_any _ (pow_below hpW' (below_regrown V d os) (pow_size hpW')))
        have c1 : ∀ d os, Calls Tryd.prog 18 #[.agg #[.int .u32 (P : Nat), .int .u8 (N : Nat)], .agg #[.int .u32 (P : Nat), .int .u8 (M : Nat)]] (grow (redrawn V d) os) fun e w'' => e = .returned (.int .i64 1) ∧ ∃ p : Regrown, w'' = grow (redrawn V p.d) p.os := fun d os => Calls.regrown_of (by rw [show (1 : Int) = cmpP P N P M by simp [cmpP, cmpV, orV, hnm, Nat.lt_asymm hnm]]; exact compare_any P N P M _)
        have c2 : ∀ d os, Calls Tryd.prog 18 #[.agg #[.int .u32 (P : Nat), .int .u8 (M : Nat)], .agg #[.int .u32 (P : Nat), .int .u8 (N : Nat)]] (grow (redrawn V d) os) fun e w'' => e = .returned (.int .i64 (-1)) ∧ ∃ p : Regrown, w'' = grow (redrawn V p.d) p.os := fun d os => Calls.regrown_of (by rw [show ((-1) : Int) = cmpP P M P N by simp [cmpP, cmpV, orV, hnm]]; exact compare_any P M P N _)
        have cH : ∀ d os, Calls Tryd.prog 19 #[.agg #[.int .u32 (P : Nat), .int .u8 (N : Nat)], .agg #[.int .u32 (P : Nat), .int .u8 (M : Nat)]] (grow (redrawn V d) os) fun e w'' => e = .returned (.bool false) ∧ ∃ p : Regrown, w'' = grow (redrawn V p.d) p.os := fun d os => Calls.regrown_of (by rw [show false = (decide (P < P) || (P == P && decide (N < M))) by simp; omega]; exact ahead_any P N P M _)
        have hx : within P M P N = false := by
          cases h : within P M P N
          · rfl
          · have := hord h; omega
        have cW : ∀ d os, Calls Tryd.prog 17 #[.agg #[.int .u32 (P : Nat), .int .u8 (M : Nat)], .agg #[.int .u32 (P : Nat), .int .u8 (N : Nat)]] (grow (redrawn V d) os) fun e w'' => e = .returned (.bool false) ∧ ∃ p : Regrown, w'' = grow (redrawn V p.d) p.os := fun d os => Calls.regrown_of (by rw [← hx]; exact within_any P M P N hQ (by omega) hP (by omega) _)
        clear hx hord
        have hb1 : ((N : Int) == (M : Int)) = false := by simp; omega
        go_wp2_with (first
          | (go_at_call 11; refine (cA _ _).mono ?_; rintro e w' ⟨rfl, ⟨d', o'⟩, rfl⟩)
          | (go_at_call 18; ((with_reducible refine (c1 _ _).mono ?_); rintro e w' ⟨rfl, ⟨d', o'⟩, rfl⟩))
          | (go_at_call 18; ((with_reducible refine (c2 _ _).mono ?_); rintro e w' ⟨rfl, ⟨d', o'⟩, rfl⟩))
          | (go_at_call 19; refine (cH _ _).mono ?_; rintro e w' ⟨rfl, ⟨d', o'⟩, rfl⟩)
          | (go_at_call 17; refine (cW _ _).mono ?_; rintro e w' ⟨rfl, ⟨d', o'⟩, rfl⟩))
        go_ret
        exact ⟨rfl, bstep hW' (below_regrown V _ _)⟩
    · have cA : ∀ d os, Calls Tryd.prog 11 #[] (grow (redrawn V d) os) fun e w'' => e = .returned (.bool true) ∧ ∃ p : Regrown, w'' = grow (redrawn V p.d) p.os := fun d os => Calls.regrown_of (awake_any _ (pow_below hpW' (below_regrown V d os) (pow_size hpW')))
      have c1 : ∀ d os, Calls Tryd.prog 18 #[.agg #[.int .u32 (P : Nat), .int .u8 (N : Nat)], .agg #[.int .u32 (Q : Nat), .int .u8 (M : Nat)]] (grow (redrawn V d) os) fun e w'' => e = .returned (.int .i64 1) ∧ ∃ p : Regrown, w'' = grow (redrawn V p.d) p.os := fun d os => Calls.regrown_of (by rw [show (1 : Int) = cmpP P N Q M by simp [cmpP, cmpV, orV, hpq, Nat.lt_asymm hpq]]; exact compare_any P N Q M _)
      have c2 : ∀ d os, Calls Tryd.prog 18 #[.agg #[.int .u32 (Q : Nat), .int .u8 (M : Nat)], .agg #[.int .u32 (P : Nat), .int .u8 (N : Nat)]] (grow (redrawn V d) os) fun e w'' => e = .returned (.int .i64 (-1)) ∧ ∃ p : Regrown, w'' = grow (redrawn V p.d) p.os := fun d os => Calls.regrown_of (by rw [show ((-1) : Int) = cmpP Q M P N by simp [cmpP, cmpV, orV, hpq]]; exact compare_any Q M P N _)
      have cH : ∀ d os, Calls Tryd.prog 19 #[.agg #[.int .u32 (P : Nat), .int .u8 (N : Nat)], .agg #[.int .u32 (Q : Nat), .int .u8 (M : Nat)]] (grow (redrawn V d) os) fun e w'' => e = .returned (.bool false) ∧ ∃ p : Regrown, w'' = grow (redrawn V p.d) p.os := fun d os => Calls.regrown_of (by rw [show false = (decide (P < Q) || (P == Q && decide (N < M))) by simp; omega]; exact ahead_any P N Q M _)
      have hx : within Q M P N = false := by
        cases h : within Q M P N
        · rfl
        · have := hord h; omega
      have cW : ∀ d os, Calls Tryd.prog 17 #[.agg #[.int .u32 (Q : Nat), .int .u8 (M : Nat)], .agg #[.int .u32 (P : Nat), .int .u8 (N : Nat)]] (grow (redrawn V d) os) fun e w'' => e = .returned (.bool false) ∧ ∃ p : Regrown, w'' = grow (redrawn V p.d) p.os := fun d os => Calls.regrown_of (by rw [← hx]; exact within_any Q M P N hQ (by omega) hP (by omega) _)
      clear hx hord
      have hb1 : ((P : Int) == (Q : Int)) = false := by simp; omega
      go_wp2_with (first
        | (go_at_call 11; refine (cA _ _).mono ?_; rintro e w' ⟨rfl, ⟨d', o'⟩, rfl⟩)
        | (go_at_call 18; ((with_reducible refine (c1 _ _).mono ?_); rintro e w' ⟨rfl, ⟨d', o'⟩, rfl⟩))
        | (go_at_call 18; ((with_reducible refine (c2 _ _).mono ?_); rintro e w' ⟨rfl, ⟨d', o'⟩, rfl⟩))
        | (go_at_call 19; refine (cH _ _).mono ?_; rintro e w' ⟨rfl, ⟨d', o'⟩, rfl⟩)
        | (go_at_call 17; refine (cW _ _).mono ?_; rintro e w' ⟨rfl, ⟨d', o'⟩, rfl⟩))
      go_ret
      exact ⟨rfl, bstep hW' (below_regrown V _ _)⟩

set_option maxRecDepth 100000 in
theorem lifted (os : Os) (started : os.Started) (H : Type) (enc : TypeId × Value → H) :
    ReturnsInHanded {} Tryd.checked os 5 .any (fun w args => (Rows.prefixOrdersSpec.pre enc Tryd.prog Tryd.f5 Rows.prefixOrdersRow.domain false w args ∧ laidMet Tryd.prog Rows.prefixOrdersRow.laid w) ∧ sizedMet enc Tryd.prog Tryd.f5 (OpenSpec.ofChange Rows.prefixOrdersSpec) false w args)
      (Rows.prefixOrdersSpec.post enc Tryd.prog Tryd.f5 false true false false) := by
  refine returnsInHanded_of_change_and (C := Tryd.checked) (X := fun w _ => laidMet Tryd.prog Rows.prefixOrdersRow.laid w) (fun _ _ _ hh h => h.of_heap hh) own started (by kernel_rfl) Tryd.func5
    (ChangeSpec.witness_at (enc := enc) (C := Tryd.checked) (os := os) (X := fun w _ => laidMet Tryd.prog Rows.prefixOrdersRow.laid w) false (laidWorld os) #[.int .u32 0, .int .u32 0, .int .u8 0, .int .u8 0, .bool false] 8 rfl (by kernel_rfl) (by kernel_rfl) (by kernel_rfl) (by kernel_rfl) (by kernel_rfl) (laid_met os _)) ?_
  intro W base args ds gs before hval0 hW hcnd _ hL _
  have hval : ∀ (j : Nat) t v, Tryd.f5.params[j]? = some t → args[j]? = some v → Value.okWide Tryd.prog W .any base t v := hval0
  have hW' := hW
  obtain ⟨p, q, hA0, hV, rfl, hfz, hnd⟩ := hW
  have hA : DataW.TrodAll enc Tryd.prog W 0 (fun _ => true) true Tryd.f5.params.toList args.toList ds p := hA0
  rw [Tryd.params5] at hA hval
  obtain ⟨v0, vs0, d0, ds0, p0, q0, hargs, rfl, rfl, h0, r0⟩ := trodAll_cons hA
  obtain ⟨v1, vs1, d1, ds1, p1, q1, rfl, rfl, rfl, h1, r1⟩ := trodAll_cons r0
  obtain ⟨v2, vs2, d2, ds2, p2, q2, rfl, rfl, rfl, h2, r2⟩ := trodAll_cons r1
  obtain ⟨v3, vs3, d3, ds3, p3, q3, rfl, rfl, rfl, h3, r3⟩ := trodAll_cons r2
  obtain ⟨v4, vs4, d4, ds4, p4, q4, rfl, rfl, rfl, h4, r4⟩ := trodAll_cons r3
  obtain ⟨rfl, rfl, rfl⟩ := trodAll_nil r4
  obtain rfl : args = #[v0, v1, v2, v3, v4] := by cases args; simp_all
  obtain ⟨rfl, rfl⟩ := trodVars_none hV
  obtain ⟨a0, rfl, rfl, rfl, w0⟩ := open_int Tryd.underlying22 (hval 0 22 v0 rfl rfl) h0
  obtain ⟨a1, rfl, rfl, rfl, w1⟩ := open_int Tryd.underlying22 (hval 1 22 v1 rfl rfl) h1
  obtain ⟨a2, rfl, rfl, rfl, w2⟩ := open_int Tryd.underlying5 (hval 2 5 v2 rfl rfl) h2
  obtain ⟨a3, rfl, rfl, rfl, w3⟩ := open_int Tryd.underlying5 (hval 3 5 v3 rfl rfl) h3
  obtain ⟨a4, rfl, rfl, rfl⟩ := open_bool Tryd.underlying4 (hval 4 4 v4 rfl rfl) h4
  clear hA0 hval0
  refine (walk a0 a1 a2 a3 a4 W w0 w1 w2 w3 (pow_of_laid hL)).mono fun e W' ⟨he, bel⟩ => ?_
  subst he
  exact ⟨_, rfl, _, _, _, [], _, [], hW', trodAll_mk1 (shut_bool Tryd.underlying4 _), (trodAll_cons_mk (shut_int Tryd.underlying22 w0) (trodAll_cons_mk (shut_int Tryd.underlying22 w1) (trodAll_cons_mk (shut_int Tryd.underlying5 w2) (trodAll_cons_mk (shut_int Tryd.underlying5 w3) (trodAll_cons_mk (shut_bool Tryd.underlying4 _) trodAll_mk0))))), rfl, bel.frame _, fun h => by cases h⟩

theorem over : Rows.prefixOrdersRow.holds Tryd.pinned (OpenSpec.ofChange Rows.prefixOrdersSpec) :=
  OpenClaim.holds_of_wide 5 Tryd.f5 rfl rfl rfl rfl rfl rfl rfl ⟨rfl, rfl, rfl, rfl, rfl⟩ rfl rfl rfl rfl rfl (by kernel_rfl) Tryd.func5 (by kernel_rfl)
    (of_decide_eq_true (by kernel_rfl)) (by unfold Func.isWrapper; first | (rw [if_pos (by decide +kernel)]; kernel_rfl) | (rw [if_neg (by decide +kernel)]; exact ⟨rfl, rfl⟩))
    (fun os started H enc _ => lifted os started H enc)

theorem proved : Rows.PrefixOrdersCardSaid :=
  Claim7.holds_tied_plain_at .later [] [.data, .data, .data] true (true, "7cfdeb993fdfbec8b9b5e67db3be9459c695c22a0ecd678560527101ee5685f7") false
    over (fun _ h => by cases h) (by kernel_rfl) (fun _ h => by cases h) prefixOrders_row_tie rfl ⟨rfl, rfl⟩ (by kernel_rfl) rfl
    (fun f fn hf hfn => by
      obtain rfl : f = 5 := Option.some.inj ((show Tryd.prog.funcNamed "milestone/milestonelaw01.PrefixOrders" = some 5 by kernel_rfl).symm.trans hf) |>.symm
      obtain rfl : fn = Tryd.f5 := (Option.some.inj (Tryd.func5.symm.trans hfn)).symm
      exact ⟨by kernel_rfl, fun j t ht => by
        rw [Tryd.params5] at ht
        have hm : t ∈ [22, 22, 5, 5, 4] := by simpa using Array.mem_of_getElem? ht
        have hall : ([22, 22, 5, 5, 4].all fun u => !Tryd.prog.wantsStandIn u) = true := by kernel_rfl
        exact (show Tryd.prog.wantsStandIn t = false by simpa using List.all_eq_true.1 hall t hm)⟩)
    (by kernel_rfl)
#print axioms proved
end Go.Proofs.YtdfphpoakihkdaaDoor.prefixOrders
