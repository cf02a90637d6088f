/-
  'For every input the Go function milestonelaw01.PrefixCommon returns true, and each argument reads behind the call as it read before.'
  Conditions: none but the row's own (linux/amd64, sizes of what is read within the address space).
-/
import Derived.Test.YtdfphpoakihkdaaDoorRows
import Derived.WalkKit
import Derived.ProofKit
import Derived.OpenShut
import Derived.ShutString
import Derived.ChangeOld
import Derived.Below
import Derived.Lib.SmallJoins
import Derived.Lib.Hide
import Derived.Test.YtdfphpoakihkdaaDoorAw
import Derived.Test.YtdfphpoakihkdaaDoorCom
import Derived.Test.YtdfphpoakihkdaaDoorLaid
import Derived.Test.YtdfphpoakihkdaaDoorCards
import Derived.Test.YtdfphpoakihkdaaDoorTie
import Derived.SevenTiedAt
namespace Go.Proofs.YtdfphpoakihkdaaDoor.prefixCommon
open Pre
open Go.Sort
open Go.ChangeShapes Go.WideShapes Go.ChangeAt Go.RowKit
open Go.ChangeMaps (open_string shut_string)
set_option linter.unusedVariables false

theorem own : ownKnob Tryd.prog.godebug = none := by kernel_rfl
theorem laidOut : laidOutB Tryd.prog = true := by kernel_rfl

/-- The two prefixes' cells, in a world in which nothing older has turned. -/
def Two (w : World) (g1 g2 P N Q M : Nat) (x : World) : Prop :=
  x.cell? ⟨g1, 0, none⟩ = some (.int .u32 P) ∧ x.cell? ⟨g1, 1, none⟩ = some (.int .u8 N) ∧ x.cell? ⟨g2, 0, none⟩ = some (.int .u32 Q) ∧ x.cell? ⟨g2, 1, none⟩ = some (.int .u8 M) ∧ Below w.heap.size w x ∧ Pow x
theorem Two.drewN {w : World} {g1 g2 P N Q M : Nat} {x : World} (h : Two w g1 g2 P N Q M x) (n : Nat) : Two w g1 g2 P N Q M (x.drewN n) := by
  obtain ⟨h0, h1, h2, h3, h4, h5⟩ := h
  exact ⟨by simpa [go_sem] using h0, by simpa [go_sem] using h1, by simpa [go_sem] using h2, by simpa [go_sem] using h3, h4.trans ⟨rfl, rfl, rfl, Nat.le_refl _, fun _ _ => rfl⟩, pow_below h5 (B := 1) ⟨rfl, rfl, rfl, Nat.le_refl _, fun _ _ => rfl⟩ (by omega)⟩

set_option maxHeartbeats 4000000 in
theorem way_in (a b n m i : Nat) (ha : a < 4294967296) (hb : b < 4294967296) (hn : n ≤ 255) (hm : m ≤ 255) (hi : i ≤ 255) (hi32 : i < 32) (w : World) (hp : Pow w) :
    Calls Tryd.prog 6 #[.int .u32 a, .int .u32 b, .int .u8 n, .int .u8 m, .int .u8 i] w fun e w' => e = .returned (.bool true) ∧ Below w.heap.size w w' := by
  have hN := len_le n
  have hM := len_le m
  have hP := top_lt (a := a) (n := n) ha
  have hQ := top_lt (a := b) (n := m) hb
  go_enter Tryd.func6, Tryd.ntmps6
  go_wp2_with fail
  refine (rof_any a n ha hn _).mono ?_
  rintro e w1 ⟨rfl, hb1⟩
  generalize top a n = P at *
  generalize len n = N at *
  go_wp2_with fail
  refine (rof_any b m hb hm _).mono ?_
  rintro e w2 ⟨rfl, hb2⟩
  generalize top b m = Q at *
  generalize len m = M at *
  go_wp2_with fail
  have z1 : w.heap.size ≤ w1.heap.size := hb1.size
  have hw1 : Below w.heap.size w (w1.alloc (.cells #[.int .u32 (P : Nat), .int .u8 (N : Nat)] 24)) := hb1.alloc z1 _
  have z2 : w1.heap.size + 1 ≤ w2.heap.size := by have := hb2.size; simpa using this
  obtain ⟨hc, _⟩ := bcell hb2
  have hw2 : Below w.heap.size w w2 := bstep hw1 hb2
  have d0 : (w2.alloc (.cells #[.int .u32 (Q : Nat), .int .u8 (M : Nat)] 24)).cell? ⟨w1.heap.size, 0, none⟩ = some (.int .u32 P) := by
    rw [World.cell?_alloc_past _ _ _ (by omega), hc _ _ (by simp)]; simp [go_sem]
  have d1 : (w2.alloc (.cells #[.int .u32 (Q : Nat), .int .u8 (M : Nat)] 24)).cell? ⟨w1.heap.size, 1, none⟩ = some (.int .u8 N) := by
    rw [World.cell?_alloc_past _ _ _ (by omega), hc _ _ (by simp)]; simp [go_sem]
  have d2 : (w2.alloc (.cells #[.int .u32 (Q : Nat), .int .u8 (M : Nat)] 24)).cell? ⟨w2.heap.size, 0, none⟩ = some (.int .u32 Q) := by simp [go_sem]
  have d3 : (w2.alloc (.cells #[.int .u32 (Q : Nat), .int .u8 (M : Nat)] 24)).cell? ⟨w2.heap.size, 1, none⟩ = some (.int .u8 M) := by simp [go_sem]
  have hW : Below w.heap.size w (w2.alloc (.cells #[.int .u32 (Q : Nat), .int .u8 (M : Nat)] 24)) := hw2.alloc (by omega) _
  have hpW : Pow (w2.alloc (.cells #[.int .u32 (Q : Nat), .int .u8 (M : Nat)] 24)) := pow_below hp hW (pow_size hp)
  generalize w2.alloc (.cells #[.int .u32 (Q : Nat), .int .u8 (M : Nat)] 24) = W at *
  generalize w1.heap.size = g1 at *
  generalize w2.heap.size = g2 at *
  clear hc hb1 hb2 hw1 hw2
  have hT : Two w g1 g2 P N Q M W := ⟨d0, d1, d2, d3, hW, hpW⟩
  clear d0 d1 d2 d3 hW hpW
  go_loopw [13] (fun s wr => ∃ k : Nat, k ≤ N ∧ k ≤ M ∧ s = .int .u8 k ∧ Hid (P / 2 ^ (32 - k) = Q / 2 ^ (32 - k)) ∧ Two w g1 g2 P N Q M wr) (fun s _ => 32 - (intOf s).toNat)
  case atStart => exact ⟨0, by omega, by omega, rfl, by show _ = _; rw [Nat.div_eq_of_lt (by simpa using hP), Nat.div_eq_of_lt (by simpa using hQ)], hT⟩
  case round =>
    clear hT
    obtain ⟨k, hkN, hkM, rfl, HA, hT⟩ := hrel
    obtain ⟨d0, d1, d2, d3, _, _⟩ := id hT
    by_cases h1 : k < N
    · have f1 : decide ((k : Int) < (N : Int)) = true := by simp; omega
      by_cases h2 : k < M
      · have f2 : decide ((k : Int) < (M : Int)) = true := by simp; omega
        have hst := alike_step P Q k (by omega) HA.out
        have HS := Lib.hid hst
        clear hst
        cases b1 : bit P k <;> cases b2 : bit Q k
        · go_wp2_with fail
          go_quiet ((first | (go_at_call 20; exact Calls.quiet_of_same (rbit_same _ k (by assumption) (by omega) _))))
          go_wp2_with fail
          go_roundw
          case rel => exact ⟨k + 1, by omega, by omega, by go_num, HS.out.2 (by rw [b1, b2]), hT.drewN nq⟩
          case measure => simp [intOf]; omega
        · have HB : Hid (bit P k ≠ bit Q k) := by show _ ≠ _; rw [b1, b2]; decide
          have HC : Hid (comm P N Q M = k) := comm_eq P N Q M k hP hQ hN hM hkN hkM HA.out (Or.inr (Or.inr HB.out))
          go_wp2_with fail
          go_quiet ((first | (go_at_call 20; exact Calls.quiet_of_same (rbit_same _ k (by assumption) (by omega) _))))
          go_wp2_with fail
          have hT := hT.drewN nq
          generalize wr.drewN nq = W at *
          clear HA
          obtain ⟨V, dv, ov, hdo, e0, e1, e2, e3, hW, hpW⟩ : ∃ V dv ov, W = grow (redrawn V dv) ov ∧ V.cell? ⟨g1, 0, none⟩ = some (.int .u32 P) ∧ V.cell? ⟨g1, 1, none⟩ = some (.int .u8 N) ∧ V.cell? ⟨g2, 0, none⟩ = some (.int .u32 Q) ∧ V.cell? ⟨g2, 1, none⟩ = some (.int .u8 M) ∧ Below w.heap.size w V ∧ Pow V := ⟨W, W.drawn, #[], by rw [grow_empty]; rfl, hT⟩
          subst hdo
          clear hT
          have k0 := cell_regrown e0
          have k1 := cell_regrown e1
          have k2 := cell_regrown e2
          have k3 := cell_regrown e3
          clear e0 e1 e2 e3
          have cA : ∀ d os, Calls Tryd.prog 11 #[] (grow (redrawn V d) os) fun e w'' => e = .returned (.bool true) ∧ ∃ p : Regrown, w'' = grow (redrawn V p.d) p.os := fun d os => Calls.regrown_of (awake_any _ (pow_below hpW (below_regrown V d os) (pow_size hpW)))
          have c1 : ∀ d os, Calls Tryd.prog 21 #[.agg #[.int .u32 (P : Nat), .int .u8 (N : Nat)], .agg #[.int .u32 (Q : Nat), .int .u8 (M : Nat)]] (grow (redrawn V d) os) fun e w'' => e = .returned (.int .u8 (k : Nat)) ∧ ∃ p : Regrown, w'' = grow (redrawn V p.d) p.os := fun d os => Calls.regrown_of (by have := common_any P N Q M hP hN hQ hM (grow (redrawn V d) os); rwa [HC.out] at this)
          have c2 : ∀ d os, Calls Tryd.prog 21 #[.agg #[.int .u32 (Q : Nat), .int .u8 (M : Nat)], .agg #[.int .u32 (P : Nat), .int .u8 (N : Nat)]] (grow (redrawn V d) os) fun e w'' => e = .returned (.int .u8 (k : Nat)) ∧ ∃ p : Regrown, w'' = grow (redrawn V p.d) p.os := fun d os => Calls.regrown_of (by have := common_any Q M P N hQ hM hP hN (grow (redrawn V d) os); rwa [comm_swap, HC.out] at this)
          have cB : ∀ d os, Calls Tryd.prog 22 #[.int .u32 a, .int .u8 i] (grow (redrawn V d) os) fun e w'' => e = .returned (.bool (bit a i)) ∧ grow (redrawn V d) os = w'' := fun d os => by have := bit_any a i ha hi (grow (redrawn V d) os); rwa [show (decide (i < 32) && bit a i) = bit a i by simp [hi32]] at this
          go_wp2_with (first
            | (go_at_call 11; refine (cA _ _).mono ?_; rintro e w' ⟨rfl, ⟨d', o'⟩, rfl⟩)
            | (go_at_call 21; ((with_reducible refine (c1 _ _).mono ?_); rintro e w' ⟨rfl, ⟨d', o'⟩, rfl⟩))
            | (go_at_call 21; ((with_reducible refine (c2 _ _).mono ?_); rintro e w' ⟨rfl, ⟨d', o'⟩, rfl⟩))
            | (go_at_call 22; refine (cB _ _).mono ?_; rintro e w' ⟨rfl, rfl⟩)
            | (go_at_call 20; refine (rbit_any a i ha hi _).mono ?_; rintro e w' ⟨rfl, rfl⟩))
          go_ret
          exact ⟨rfl, bstep hW (below_regrown V _ _)⟩
        · have HB : Hid (bit P k ≠ bit Q k) := by show _ ≠ _; rw [b1, b2]; decide
          have HC : Hid (comm P N Q M = k) := comm_eq P N Q M k hP hQ hN hM hkN hkM HA.out (Or.inr (Or.inr HB.out))
          go_wp2_with fail
          go_quiet ((first | (go_at_call 20; exact Calls.quiet_of_same (rbit_same _ k (by assumption) (by omega) _))))
          go_wp2_with fail
          have hT := hT.drewN nq
          generalize wr.drewN nq = W at *
          clear HA
          obtain ⟨V, dv, ov, hdo, e0, e1, e2, e3, hW, hpW⟩ : ∃ V dv ov, W = grow (redrawn V dv) ov ∧ V.cell? ⟨g1, 0, none⟩ = some (.int .u32 P) ∧ V.cell? ⟨g1, 1, none⟩ = some (.int .u8 N) ∧ V.cell? ⟨g2, 0, none⟩ = some (.int .u32 Q) ∧ V.cell? ⟨g2, 1, none⟩ = some (.int .u8 M) ∧ Below w.heap.size w V ∧ Pow V := ⟨W, W.drawn, #[], by rw [grow_empty]; rfl, hT⟩
          subst hdo
          clear hT
          have k0 := cell_regrown e0
          have k1 := cell_regrown e1
          have k2 := cell_regrown e2
          have k3 := cell_regrown e3
          clear e0 e1 e2 e3
          have cA : ∀ d os, Calls Tryd.prog 11 #[] (grow (redrawn V d) os) fun e w'' => e = .returned (.bool true) ∧ ∃ p : Regrown, w'' = grow (redrawn V p.d) p.os := fun d os => Calls.regrown_of (awake_any _ (pow_below hpW (below_regrown V d os) (pow_size hpW)))
          have c1 : ∀ d os, Calls Tryd.prog 21 #[.agg #[.int .u32 (P : Nat), .int .u8 (N : Nat)], .agg #[.int .u32 (Q : Nat), .int .u8 (M : Nat)]] (grow (redrawn V d) os) fun e w'' => e = .returned (.int .u8 (k : Nat)) ∧ ∃ p : Regrown, w'' = grow (redrawn V p.d) p.os := fun d os => Calls.regrown_of (by have := common_any P N Q M hP hN hQ hM (grow (redrawn V d) os); rwa [HC.out] at this)
          have c2 : ∀ d os, Calls Tryd.prog 21 #[.agg #[.int .u32 (Q : Nat), .int .u8 (M : Nat)], .agg #[.int .u32 (P : Nat), .int .u8 (N : Nat)]] (grow (redrawn V d) os) fun e w'' => e = .returned (.int .u8 (k : Nat)) ∧ ∃ p : Regrown, w'' = grow (redrawn V p.d) p.os := fun d os => Calls.regrown_of (by have := common_any Q M P N hQ hM hP hN (grow (redrawn V d) os); rwa [comm_swap, HC.out] at this)
          have cB : ∀ d os, Calls Tryd.prog 22 #[.int .u32 a, .int .u8 i] (grow (redrawn V d) os) fun e w'' => e = .returned (.bool (bit a i)) ∧ grow (redrawn V d) os = w'' := fun d os => by have := bit_any a i ha hi (grow (redrawn V d) os); rwa [show (decide (i < 32) && bit a i) = bit a i by simp [hi32]] at this
          go_wp2_with (first
            | (go_at_call 11; refine (cA _ _).mono ?_; rintro e w' ⟨rfl, ⟨d', o'⟩, rfl⟩)
            | (go_at_call 21; ((with_reducible refine (c1 _ _).mono ?_); rintro e w' ⟨rfl, ⟨d', o'⟩, rfl⟩))
            | (go_at_call 21; ((with_reducible refine (c2 _ _).mono ?_); rintro e w' ⟨rfl, ⟨d', o'⟩, rfl⟩))
            | (go_at_call 22; refine (cB _ _).mono ?_; rintro e w' ⟨rfl, rfl⟩)
            | (go_at_call 20; refine (rbit_any a i ha hi _).mono ?_; rintro e w' ⟨rfl, rfl⟩))
          go_ret
          exact ⟨rfl, bstep hW (below_regrown V _ _)⟩
        · go_wp2_with fail
          go_quiet ((first | (go_at_call 20; exact Calls.quiet_of_same (rbit_same _ k (by assumption) (by omega) _))))
          go_wp2_with fail
          go_roundw
          case rel => exact ⟨k + 1, by omega, by omega, by go_num, HS.out.2 (by rw [b1, b2]), hT.drewN nq⟩
          case measure => simp [intOf]; omega
      · have f2 : decide ((k : Int) < (M : Int)) = false := by simp; omega
        have HC : Hid (comm P N Q M = k) := comm_eq P N Q M k hP hQ hN hM hkN hkM HA.out (Or.inr (Or.inl (by omega)))
        go_wp2_with fail
        go_quiet ((first | (go_at_call 20; exact Calls.quiet_of_same (rbit_same _ k (by assumption) (by omega) _))))
        go_wp2_with fail
        have hT := hT.drewN nq
        generalize wr.drewN nq = W at *
        clear HA
        obtain ⟨V, dv, ov, hdo, e0, e1, e2, e3, hW, hpW⟩ : ∃ V dv ov, W = grow (redrawn V dv) ov ∧ V.cell? ⟨g1, 0, none⟩ = some (.int .u32 P) ∧ V.cell? ⟨g1, 1, none⟩ = some (.int .u8 N) ∧ V.cell? ⟨g2, 0, none⟩ = some (.int .u32 Q) ∧ V.cell? ⟨g2, 1, none⟩ = some (.int .u8 M) ∧ Below w.heap.size w V ∧ Pow V := ⟨W, W.drawn, #[], by rw [grow_empty]; rfl, hT⟩
        subst hdo
        clear hT
        have k0 := cell_regrown e0
        have k1 := cell_regrown e1
        have k2 := cell_regrown e2
        have k3 := cell_regrown e3
        clear e0 e1 e2 e3
        have cA : ∀ d os, Calls Tryd.prog 11 #[] (grow (redrawn V d) os) fun e w'' => e = .returned (.bool true) ∧ ∃ p : Regrown, w'' = grow (redrawn V p.d) p.os := fun d os => Calls.regrown_of (awake_any _ (pow_below hpW (below_regrown V d os) (pow_size hpW)))
        have c1 : ∀ d os, Calls Tryd.prog 21 #[.agg #[.int .u32 (P : Nat), .int .u8 (N : Nat)], .agg #[.int .u32 (Q : Nat), .int .u8 (M : Nat)]] (grow (redrawn V d) os) fun e w'' => e = .returned (.int .u8 (k : Nat)) ∧ ∃ p : Regrown, w'' = grow (redrawn V p.d) p.os := fun d os => Calls.regrown_of (by have := common_any P N Q M hP hN hQ hM (grow (redrawn V d) os); rwa [HC.out] at this)
        have c2 : ∀ d os, Calls Tryd.prog 21 #[.agg #[.int .u32 (Q : Nat), .int .u8 (M : Nat)], .agg #[.int .u32 (P : Nat), .int .u8 (N : Nat)]] (grow (redrawn V d) os) fun e w'' => e = .returned (.int .u8 (k : Nat)) ∧ ∃ p : Regrown, w'' = grow (redrawn V p.d) p.os := fun d os => Calls.regrown_of (by have := common_any Q M P N hQ hM hP hN (grow (redrawn V d) os); rwa [comm_swap, HC.out] at this)
        have cB : ∀ d os, Calls Tryd.prog 22 #[.int .u32 a, .int .u8 i] (grow (redrawn V d) os) fun e w'' => e = .returned (.bool (bit a i)) ∧ grow (redrawn V d) os = w'' := fun d os => by have := bit_any a i ha hi (grow (redrawn V d) os); rwa [show (decide (i < 32) && bit a i) = bit a i by simp [hi32]] at this
        go_wp2_with (first
          | (go_at_call 11; refine (cA _ _).mono ?_; rintro e w' ⟨rfl, ⟨d', o'⟩, rfl⟩)
          | (go_at_call 21; ((with_reducible refine (c1 _ _).mono ?_); rintro e w' ⟨rfl, ⟨d', o'⟩, rfl⟩))
          | (go_at_call 21; ((with_reducible refine (c2 _ _).mono ?_); rintro e w' ⟨rfl, ⟨d', o'⟩, rfl⟩))
          | (go_at_call 22; refine (cB _ _).mono ?_; rintro e w' ⟨rfl, rfl⟩)
          | (go_at_call 20; refine (rbit_any a i ha hi _).mono ?_; rintro e w' ⟨rfl, rfl⟩))
        go_ret
        exact ⟨rfl, bstep hW (below_regrown V _ _)⟩
    · have f1 : decide ((k : Int) < (N : Int)) = false := by simp; omega
      have HC : Hid (comm P N Q M = k) := comm_eq P N Q M k hP hQ hN hM hkN hkM HA.out (Or.inl (by omega))
      go_wp2_with fail
      go_quiet ((first | (go_at_call 20; exact Calls.quiet_of_same (rbit_same _ k (by assumption) (by omega) _))))
      go_wp2_with fail
      have hT := hT.drewN nq
      generalize wr.drewN nq = W at *
      clear HA
      obtain ⟨V, dv, ov, hdo, e0, e1, e2, e3, hW, hpW⟩ : ∃ V dv ov, W = grow (redrawn V dv) ov ∧ V.cell? ⟨g1, 0, none⟩ = some (.int .u32 P) ∧ V.cell? ⟨g1, 1, none⟩ = some (.int .u8 N) ∧ V.cell? ⟨g2, 0, none⟩ = some (.int .u32 Q) ∧ V.cell? ⟨g2, 1, none⟩ = some (.int .u8 M) ∧ Below w.heap.size w V ∧ Pow V := ⟨W, W.drawn, #[], by rw [grow_empty]; rfl, hT⟩
      subst hdo
      clear hT
      have k0 := cell_regrown e0
      have k1 := cell_regrown e1
      have k2 := cell_regrown e2
      have k3 := cell_regrown e3
      clear e0 e1 e2 e3
      have cA : ∀ d os, Calls Tryd.prog 11 #[] (grow (redrawn V d) os) fun e w'' => e = .returned (.bool true) ∧ ∃ p : Regrown, w'' = grow (redrawn V p.d) p.os := fun d os => Calls.regrown_of (awake_any _ (pow_below hpW (below_regrown V d os) (pow_size hpW)))
      have c1 : ∀ d os, Calls Tryd.prog 21 #[.agg #[.int .u32 (P : Nat), .int .u8 (N : Nat)], .agg #[.int .u32 (Q : Nat), .int .u8 (M : Nat)]] (grow (redrawn V d) os) fun e w'' => e = .returned (.int .u8 (k : Nat)) ∧ ∃ p : Regrown, w'' = grow (redrawn V p.d) p.os := fun d os => Calls.regrown_of (by have := common_any P N Q M hP hN hQ hM (grow (redrawn V d) os); rwa [HC.out] at this)
      have c2 : ∀ d os, Calls Tryd.prog 21 #[.agg #[.int .u32 (Q : Nat), .int .u8 (M : Nat)], .agg #[.int .u32 (P : Nat), .int .u8 (N : Nat)]] (grow (redrawn V d) os) fun e w'' => e = .returned (.int .u8 (k : Nat)) ∧ ∃ p : Regrown, w'' = grow (redrawn V p.d) p.os := fun d os => Calls.regrown_of (by have := common_any Q M P N hQ hM hP hN (grow (redrawn V d) os); rwa [comm_swap, HC.out] at this)
      have cB : ∀ d os, Calls Tryd.prog 22 #[.int .u32 a, .int .u8 i] (grow (redrawn V d) os) fun e w'' => e = .returned (.bool (bit a i)) ∧ grow (redrawn V d) os = w'' := fun d os => by have := bit_any a i ha hi (grow (redrawn V d) os); rwa [show (decide (i < 32) && bit a i) = bit a i by simp [hi32]] at this
      go_wp2_with (first
        | (go_at_call 11; refine (cA _ _).mono ?_; rintro e w' ⟨rfl, ⟨d', o'⟩, rfl⟩)
        | (go_at_call 21; ((with_reducible refine (c1 _ _).mono ?_); rintro e w' ⟨rfl, ⟨d', o'⟩, rfl⟩))
        | (go_at_call 21; ((with_reducible refine (c2 _ _).mono ?_); rintro e w' ⟨rfl, ⟨d', o'⟩, rfl⟩))
        | (go_at_call 22; refine (cB _ _).mono ?_; rintro e w' ⟨rfl, rfl⟩)
        | (go_at_call 20; refine (rbit_any a i ha hi _).mono ?_; rintro e w' ⟨rfl, rfl⟩))
      go_ret
      exact ⟨rfl, bstep hW (below_regrown V _ _)⟩

set_option maxHeartbeats 4000000 in
theorem way_out (a b n m i : Nat) (ha : a < 4294967296) (hb : b < 4294967296) (hn : n ≤ 255) (hm : m ≤ 255) (hi : i ≤ 255) (hi32 : ¬ i < 32) (w : World) (hp : Pow w) :
    Calls Tryd.prog 6 #[.int .u32 a, .int .u32 b, .int .u8 n, .int .u8 m, .int .u8 i] w fun e w' => e = .returned (.bool true) ∧ Below w.heap.size w w' := by
  have hN := len_le n
  have hM := len_le m
  have hP := top_lt (a := a) (n := n) ha
  have hQ := top_lt (a := b) (n := m) hb
  go_enter Tryd.func6, Tryd.ntmps6
  go_wp2_with fail
  refine (rof_any a n ha hn _).mono ?_
  rintro e w1 ⟨rfl, hb1⟩
  generalize top a n = P at *
  generalize len n = N at *
  go_wp2_with fail
  refine (rof_any b m hb hm _).mono ?_
  rintro e w2 ⟨rfl, hb2⟩
  generalize top b m = Q at *
  generalize len m = M at *
  go_wp2_with fail
  have z1 : w.heap.size ≤ w1.heap.size := hb1.size
  have hw1 : Below w.heap.size w (w1.alloc (.cells #[.int .u32 (P : Nat), .int .u8 (N : Nat)] 24)) := hb1.alloc z1 _
  have z2 : w1.heap.size + 1 ≤ w2.heap.size := by have := hb2.size; simpa using this
  obtain ⟨hc, _⟩ := bcell hb2
  have hw2 : Below w.heap.size w w2 := bstep hw1 hb2
  have d0 : (w2.alloc (.cells #[.int .u32 (Q : Nat), .int .u8 (M : Nat)] 24)).cell? ⟨w1.heap.size, 0, none⟩ = some (.int .u32 P) := by
    rw [World.cell?_alloc_past _ _ _ (by omega), hc _ _ (by simp)]; simp [go_sem]
  have d1 : (w2.alloc (.cells #[.int .u32 (Q : Nat), .int .u8 (M : Nat)] 24)).cell? ⟨w1.heap.size, 1, none⟩ = some (.int .u8 N) := by
    rw [World.cell?_alloc_past _ _ _ (by omega), hc _ _ (by simp)]; simp [go_sem]
  have d2 : (w2.alloc (.cells #[.int .u32 (Q : Nat), .int .u8 (M : Nat)] 24)).cell? ⟨w2.heap.size, 0, none⟩ = some (.int .u32 Q) := by simp [go_sem]
  have d3 : (w2.alloc (.cells #[.int .u32 (Q : Nat), .int .u8 (M : Nat)] 24)).cell? ⟨w2.heap.size, 1, none⟩ = some (.int .u8 M) := by simp [go_sem]
  have hW : Below w.heap.size w (w2.alloc (.cells #[.int .u32 (Q : Nat), .int .u8 (M : Nat)] 24)) := hw2.alloc (by omega) _
  have hpW : Pow (w2.alloc (.cells #[.int .u32 (Q : Nat), .int .u8 (M : Nat)] 24)) := pow_below hp hW (pow_size hp)
  generalize w2.alloc (.cells #[.int .u32 (Q : Nat), .int .u8 (M : Nat)] 24) = W at *
  generalize w1.heap.size = g1 at *
  generalize w2.heap.size = g2 at *
  clear hc hb1 hb2 hw1 hw2
  have hT : Two w g1 g2 P N Q M W := ⟨d0, d1, d2, d3, hW, hpW⟩
  clear d0 d1 d2 d3 hW hpW
  go_loopw [13] (fun s wr => ∃ k : Nat, k ≤ N ∧ k ≤ M ∧ s = .int .u8 k ∧ Hid (P / 2 ^ (32 - k) = Q / 2 ^ (32 - k)) ∧ Two w g1 g2 P N Q M wr) (fun s _ => 32 - (intOf s).toNat)
  case atStart => exact ⟨0, by omega, by omega, rfl, by show _ = _; rw [Nat.div_eq_of_lt (by simpa using hP), Nat.div_eq_of_lt (by simpa using hQ)], hT⟩
  case round =>
    clear hT
    obtain ⟨k, hkN, hkM, rfl, HA, hT⟩ := hrel
    obtain ⟨d0, d1, d2, d3, _, _⟩ := id hT
    by_cases h1 : k < N
    · have f1 : decide ((k : Int) < (N : Int)) = true := by simp; omega
      by_cases h2 : k < M
      · have f2 : decide ((k : Int) < (M : Int)) = true := by simp; omega
        have hst := alike_step P Q k (by omega) HA.out
        have HS := Lib.hid hst
        clear hst
        cases b1 : bit P k <;> cases b2 : bit Q k
        · go_wp2_with fail
          go_quiet ((first | (go_at_call 20; exact Calls.quiet_of_same (rbit_same _ k (by assumption) (by omega) _))))
          go_wp2_with fail
          go_roundw
          case rel => exact ⟨k + 1, by omega, by omega, by go_num, HS.out.2 (by rw [b1, b2]), hT.drewN nq⟩
          case measure => simp [intOf]; omega
        · have HB : Hid (bit P k ≠ bit Q k) := by show _ ≠ _; rw [b1, b2]; decide
          have HC : Hid (comm P N Q M = k) := comm_eq P N Q M k hP hQ hN hM hkN hkM HA.out (Or.inr (Or.inr HB.out))
          go_wp2_with fail
          go_quiet ((first | (go_at_call 20; exact Calls.quiet_of_same (rbit_same _ k (by assumption) (by omega) _))))
          go_wp2_with fail
          have hT := hT.drewN nq
          generalize wr.drewN nq = W at *
          clear HA
          obtain ⟨V, dv, ov, hdo, e0, e1, e2, e3, hW, hpW⟩ : ∃ V dv ov, W = grow (redrawn V dv) ov ∧ V.cell? ⟨g1, 0, none⟩ = some (.int .u32 P) ∧ V.cell? ⟨g1, 1, none⟩ = some (.int .u8 N) ∧ V.cell? ⟨g2, 0, none⟩ = some (.int .u32 Q) ∧ V.cell? ⟨g2, 1, none⟩ = some (.int .u8 M) ∧ Below w.heap.size w V ∧ Pow V := ⟨W, W.drawn, #[], by rw [grow_empty]; rfl, hT⟩
          subst hdo
          clear hT
          have k0 := cell_regrown e0
          have k1 := cell_regrown e1
          have k2 := cell_regrown e2
          have k3 := cell_regrown e3
          clear e0 e1 e2 e3
          have cA : ∀ d os, Calls Tryd.prog 11 #[] (grow (redrawn V d) os) fun e w'' => e = .returned (.bool true) ∧ ∃ p : Regrown, w'' = grow (redrawn V p.d) p.os := fun d os => Calls.regrown_of (awake_any _ (pow_below hpW (below_regrown V d os) (pow_size hpW)))
          have c1 : ∀ d os, Calls Tryd.prog 21 #[.agg #[.int .u32 (P : Nat), .int .u8 (N : Nat)], .agg #[.int .u32 (Q : Nat), .int .u8 (M : Nat)]] (grow (redrawn V d) os) fun e w'' => e = .returned (.int .u8 (k : Nat)) ∧ ∃ p : Regrown, w'' = grow (redrawn V p.d) p.os := fun d os => Calls.regrown_of (by have := common_any P N Q M hP hN hQ hM (grow (redrawn V d) os); rwa [HC.out] at this)
          have c2 : ∀ d os, Calls Tryd.prog 21 #[.agg #[.int .u32 (Q : Nat), .int .u8 (M : Nat)], .agg #[.int .u32 (P : Nat), .int .u8 (N : Nat)]] (grow (redrawn V d) os) fun e w'' => e = .returned (.int .u8 (k : Nat)) ∧ ∃ p : Regrown, w'' = grow (redrawn V p.d) p.os := fun d os => Calls.regrown_of (by have := common_any Q M P N hQ hM hP hN (grow (redrawn V d) os); rwa [comm_swap, HC.out] at this)
          have cB : ∀ d os, Calls Tryd.prog 22 #[.int .u32 a, .int .u8 i] (grow (redrawn V d) os) fun e w'' => e = .returned (.bool (false)) ∧ grow (redrawn V d) os = w'' := fun d os => by have := bit_any a i ha hi (grow (redrawn V d) os); rwa [show (decide (i < 32) && bit a i) = false by simp [hi32]] at this
          go_wp2_with (first
            | (go_at_call 11; refine (cA _ _).mono ?_; rintro e w' ⟨rfl, ⟨d', o'⟩, rfl⟩)
            | (go_at_call 21; ((with_reducible refine (c1 _ _).mono ?_); rintro e w' ⟨rfl, ⟨d', o'⟩, rfl⟩))
            | (go_at_call 21; ((with_reducible refine (c2 _ _).mono ?_); rintro e w' ⟨rfl, ⟨d', o'⟩, rfl⟩))
            | (go_at_call 22; refine (cB _ _).mono ?_; rintro e w' ⟨rfl, rfl⟩)
            | (go_at_call 20; refine (rbit_any a i ha hi _).mono ?_; rintro e w' ⟨rfl, rfl⟩))
          go_ret
          exact ⟨rfl, bstep hW (below_regrown V _ _)⟩
        · have HB : Hid (bit P k ≠ bit Q k) := by show _ ≠ _; rw [b1, b2]; decide
          have HC : Hid (comm P N Q M = k) := comm_eq P N Q M k hP hQ hN hM hkN hkM HA.out (Or.inr (Or.inr HB.out))
          go_wp2_with fail
          go_quiet ((first | (go_at_call 20; exact Calls.quiet_of_same (rbit_same _ k (by assumption) (by omega) _))))
          go_wp2_with fail
          have hT := hT.drewN nq
          generalize wr.drewN nq = W at *
          clear HA
          obtain ⟨V, dv, ov, hdo, e0, e1, e2, e3, hW, hpW⟩ : ∃ V dv ov, W = grow (redrawn V dv) ov ∧ V.cell? ⟨g1, 0, none⟩ = some (.int .u32 P) ∧ V.cell? ⟨g1, 1, none⟩ = some (.int .u8 N) ∧ V.cell? ⟨g2, 0, none⟩ = some (.int .u32 Q) ∧ V.cell? ⟨g2, 1, none⟩ = some (.int .u8 M) ∧ Below w.heap.size w V ∧ Pow V := ⟨W, W.drawn, #[], by rw [grow_empty]; rfl, hT⟩
          subst hdo
          clear hT
          have k0 := cell_regrown e0
          have k1 := cell_regrown e1
          have k2 := cell_regrown e2
          have k3 := cell_regrown e3
          clear e0 e1 e2 e3
          have cA : ∀ d os, Calls Tryd.prog 11 #[] (grow (redrawn V d) os) fun e w'' => e = .returned (.bool true) ∧ ∃ p : Regrown, w'' = grow (redrawn V p.d) p.os := fun d os => Calls.regrown_of (awake_any _ (pow_below hpW (below_regrown V d os) (pow_size hpW)))
          have c1 : ∀ d os, Calls Tryd.prog 21 #[.agg #[.int .u32 (P : Nat), .int .u8 (N : Nat)], .agg #[.int .u32 (Q : Nat), .int .u8 (M : Nat)]] (grow (redrawn V d) os) fun e w'' => e = .returned (.int .u8 (k : Nat)) ∧ ∃ p : Regrown, w'' = grow (redrawn V p.d) p.os := fun d os => Calls.regrown_of (by have := common_any P N Q M hP hN hQ hM (grow (redrawn V d) os); rwa [HC.out] at this)
          have c2 : ∀ d os, Calls Tryd.prog 21 #[.agg #[.int .u32 (Q : Nat), .int .u8 (M : Nat)], .agg #[.int .u32 (P : Nat), .int .u8 (N : Nat)]] (grow (redrawn V d) os) fun e w'' => e = .returned (.int .u8 (k : Nat)) ∧ ∃ p : Regrown, w'' = grow (redrawn V p.d) p.os := fun d os => Calls.regrown_of (by have := common_any Q M P N hQ hM hP hN (grow (redrawn V d) os); rwa [comm_swap, HC.out] at this)
          have cB : ∀ d os, Calls Tryd.prog 22 #[.int .u32 a, .int .u8 i] (grow (redrawn V d) os) fun e w'' => e = .returned (.bool (false)) ∧ grow (redrawn V d) os = w'' := fun d os => by have := bit_any a i ha hi (grow (redrawn V d) os); rwa [show (decide (i < 32) && bit a i) = false by simp [hi32]] at this
          go_wp2_with (first
            | (go_at_call 11; refine (cA _ _).mono ?_; rintro e w' ⟨rfl, ⟨d', o'⟩, rfl⟩)
            | (go_at_call 21; ((with_reducible refine (c1 _ _).mono ?_); rintro e w' ⟨rfl, ⟨d', o'⟩, rfl⟩))
            | (go_at_call 21; ((with_reducible refine (c2 _ _).mono ?_); rintro e w' ⟨rfl, ⟨d', o'⟩, rfl⟩))
            | (go_at_call 22; refine (cB _ _).mono ?_; rintro e w' ⟨rfl, rfl⟩)
            | (go_at_call 20; refine (rbit_any a i ha hi _).mono ?_; rintro e w' ⟨rfl, rfl⟩))
          go_ret
          exact ⟨rfl, bstep hW (below_regrown V _ _)⟩
        · go_wp2_with fail
          go_quiet ((first | (go_at_call 20; exact Calls.quiet_of_same (rbit_same _ k (by assumption) (by omega) _))))
          go_wp2_with fail
          go_roundw
          case rel => exact ⟨k + 1, by omega, by omega, by go_num, HS.out.2 (by rw [b1, b2]), hT.drewN nq⟩
          case measure => simp [intOf]; omega
      · have f2 : decide ((k : Int) < (M : Int)) = false := by simp; omega
        have HC : Hid (comm P N Q M = k) := comm_eq P N Q M k hP hQ hN hM hkN hkM HA.out (Or.inr (Or.inl (by omega)))
        go_wp2_with fail
        go_quiet ((first | (go_at_call 20; exact Calls.quiet_of_same (rbit_same _ k (by assumption) (by omega) _))))
        go_wp2_with fail
        have hT := hT.drewN nq
        generalize wr.drewN nq = W at *
        clear HA
        obtain ⟨V, dv, ov, hdo, e0, e1, e2, e3, hW, hpW⟩ : ∃ V dv ov, W = grow (redrawn V dv) ov ∧ V.cell? ⟨g1, 0, none⟩ = some (.int .u32 P) ∧ V.cell? ⟨g1, 1, none⟩ = some (.int .u8 N) ∧ V.cell? ⟨g2, 0, none⟩ = some (.int .u32 Q) ∧ V.cell? ⟨g2, 1, none⟩ = some (.int .u8 M) ∧ Below w.heap.size w V ∧ Pow V := ⟨W, W.drawn, #[], by rw [grow_empty]; rfl, hT⟩
        subst hdo
        clear hT
        have k0 := cell_regrown e0
        have k1 := cell_regrown e1
        have k2 := cell_regrown e2
        have k3 := cell_regrown e3
        clear e0 e1 e2 e3
        have cA : ∀ d os, Calls Tryd.prog 11 #[] (grow (redrawn V d) os) fun e w'' => e = .returned (.bool true) ∧ ∃ p : Regrown, w'' = grow (redrawn V p.d) p.os := fun d os => Calls.regrown_of (awake_any _ (pow_below hpW (below_regrown V d os) (pow_size hpW)))
        have c1 : ∀ d os, Calls Tryd.prog 21 #[.agg #[.int .u32 (P : Nat), .int .u8 (N : Nat)], .agg #[.int .u32 (Q : Nat), .int .u8 (M : Nat)]] (grow (redrawn V d) os) fun e w'' => e = .returned (.int .u8 (k : Nat)) ∧ ∃ p : Regrown, w'' = grow (redrawn V p.d) p.os := fun d os => Calls.regrown_of (by have := common_any P N Q M hP hN hQ hM (grow (redrawn V d) os); rwa [HC.out] at this)
        have c2 : ∀ d os, Calls Tryd.prog 21 #[.agg #[.int .u32 (Q : Nat), .int .u8 (M : Nat)], .agg #[.int .u32 (P : Nat), .int .u8 (N : Nat)]] (grow (redrawn V d) os) fun e w'' => e = .returned (.int .u8 (k : Nat)) ∧ ∃ p : Regrown, w'' = grow (redrawn V p.d) p.os := fun d os => Calls.regrown_of (by have := common_any Q M P N hQ hM hP hN (grow (redrawn V d) os); rwa [comm_swap, HC.out] at this)
        have cB : ∀ d os, Calls Tryd.prog 22 #[.int .u32 a, .int .u8 i] (grow (redrawn V d) os) fun e w'' => e = .returned (.bool (false)) ∧ grow (redrawn V d) os = w'' := fun d os => by have := bit_any a i ha hi (grow (redrawn V d) os); rwa [show (decide (i < 32) && bit a i) = false by simp [hi32]] at this
        go_wp2_with (first
          | (go_at_call 11; refine (cA _ _).mono ?_; rintro e w' ⟨rfl, ⟨d', o'⟩, rfl⟩)
          | (go_at_call 21; ((with_reducible refine (c1 _ _).mono ?_); rintro e w' ⟨rfl, ⟨d', o'⟩, rfl⟩))
          | (go_at_call 21; ((with_reducible refine (c2 _ _).mono ?_); rintro e w' ⟨rfl, ⟨d', o'⟩, rfl⟩))
          | (go_at_call 22; refine (cB _ _).mono ?_; rintro e w' ⟨rfl, rfl⟩)
          | (go_at_call 20; refine (rbit_any a i ha hi _).mono ?_; rintro e w' ⟨rfl, rfl⟩))
        go_ret
        exact ⟨rfl, bstep hW (below_regrown V _ _)⟩
    · have f1 : decide ((k : Int) < (N : Int)) = false := by simp; omega
      have HC : Hid (comm P N Q M = k) := comm_eq P N Q M k hP hQ hN hM hkN hkM HA.out (Or.inl (by omega))
      go_wp2_with fail
      go_quiet ((first | (go_at_call 20; exact Calls.quiet_of_same (rbit_same _ k (by assumption) (by omega) _))))
      go_wp2_with fail
      have hT := hT.drewN nq
      generalize wr.drewN nq = W at *
      clear HA
      obtain ⟨V, dv, ov, hdo, e0, e1, e2, e3, hW, hpW⟩ : ∃ V dv ov, W = grow (redrawn V dv) ov ∧ V.cell? ⟨g1, 0, none⟩ = some (.int .u32 P) ∧ V.cell? ⟨g1, 1, none⟩ = some (.int .u8 N) ∧ V.cell? ⟨g2, 0, none⟩ = some (.int .u32 Q) ∧ V.cell? ⟨g2, 1, none⟩ = some (.int .u8 M) ∧ Below w.heap.size w V ∧ Pow V := ⟨W, W.drawn, #[], by rw [grow_empty]; rfl, hT⟩
      subst hdo
      clear hT
      have k0 := cell_regrown e0
      have k1 := cell_regrown e1
      have k2 := cell_regrown e2
      have k3 := cell_regrown e3
      clear e0 e1 e2 e3
      have cA : ∀ d os, Calls Tryd.prog 11 #[] (grow (redrawn V d) os) fun e w'' => e = .returned (.bool true) ∧ ∃ p : Regrown, w'' = grow (redrawn V p.d) p.os := fun d os => Calls.regrown_of (awake_any _ (pow_below hpW (below_regrown V d os) (pow_size hpW)))
      have c1 : ∀ d os, Calls Tryd.prog 21 #[.agg #[.int .u32 (P : Nat), .int .u8 (N : Nat)], .agg #[.int .u32 (Q : Nat), .int .u8 (M : Nat)]] (grow (redrawn V d) os) fun e w'' => e = .returned (.int .u8 (k : Nat)) ∧ ∃ p : Regrown, w'' = grow (redrawn V p.d) p.os := fun d os => Calls.regrown_of (by have := common_any P N Q M hP hN hQ hM (grow (redrawn V d) os); rwa [HC.out] at this)
      have c2 : ∀ d os, Calls Tryd.prog 21 #[.agg #[.int .u32 (Q : Nat), .int .u8 (M : Nat)], .agg #[.int .u32 (P : Nat), .int .u8 (N : Nat)]] (grow (redrawn V d) os) fun e w'' => e = .returned (.int .u8 (k : Nat)) ∧ ∃ p : Regrown, w'' = grow (redrawn V p.d) p.os := fun d os => Calls.regrown_of (by have := common_any Q M P N hQ hM hP hN (grow (redrawn V d) os); rwa [comm_swap, HC.out] at this)
      have cB : ∀ d os, Calls Tryd.prog 22 #[.int .u32 a, .int .u8 i] (grow (redrawn V d) os) fun e w'' => e = .returned (.bool (false)) ∧ grow (redrawn V d) os = w'' := fun d os => by have := bit_any a i ha hi (grow (redrawn V d) os); rwa [show (decide (i < 32) && bit a i) = false by simp [hi32]] at this
      go_wp2_with (first
        | (go_at_call 11; refine (cA _ _).mono ?_; rintro e w' ⟨rfl, ⟨d', o'⟩, rfl⟩)
        | (go_at_call 21; ((with_reducible refine (c1 _ _).mono ?_); rintro e w' ⟨rfl, ⟨d', o'⟩, rfl⟩))
        | (go_at_call 21; ((with_reducible refine (c2 _ _).mono ?_); rintro e w' ⟨rfl, ⟨d', o'⟩, rfl⟩))
        | (go_at_call 22; refine (cB _ _).mono ?_; rintro e w' ⟨rfl, rfl⟩)
        | (go_at_call 20; refine (rbit_any a i ha hi _).mono ?_; rintro e w' ⟨rfl, rfl⟩))
      go_ret
      exact ⟨rfl, bstep hW (below_regrown V _ _)⟩

theorem walk (a0 : Int) (a1 : Int) (a2 : Int) (a3 : Int) (a4 : Int) (w : World) (w0 : (Lit.int .u32 a0).wf = true) (w1 : (Lit.int .u32 a1).wf = true) (w2 : (Lit.int .u8 a2).wf = true) (w3 : (Lit.int .u8 a3).wf = true) (w4 : (Lit.int .u8 a4).wf = true) (hp : Pow w) :
    Calls Tryd.prog 6 #[.int .u32 a0, .int .u32 a1, .int .u8 a2, .int .u8 a3, .int .u8 a4] w fun e w' => e = .returned (.bool true) ∧ Below w.heap.size w w' := by
  have b0 := bounds_u32 w0
  have b1 := bounds_u32 w1
  have b2 := bounds_u8 w2
  have b3 := bounds_u8 w3
  have b4 := bounds_u8 w4
  clear w0 w1 w2 w3 w4
  obtain ⟨a, rfl⟩ := Int.eq_ofNat_of_zero_le b0.1
  obtain ⟨b, rfl⟩ := Int.eq_ofNat_of_zero_le b1.1
  obtain ⟨n, rfl⟩ := Int.eq_ofNat_of_zero_le b2.1
  obtain ⟨m, rfl⟩ := Int.eq_ofNat_of_zero_le b3.1
  obtain ⟨i, rfl⟩ := Int.eq_ofNat_of_zero_le b4.1
  have ha : a < 4294967296 := by omega
  have hb : b < 4294967296 := by omega
  have hn : n ≤ 255 := by omega
  have hm : m ≤ 255 := by omega
  have hi : i ≤ 255 := by omega
  clear b0 b1 b2 b3 b4
  by_cases h : i < 32
  · exact way_in a b n m i ha hb hn hm hi h w hp
  · exact way_out a b n m i ha hb hn hm hi h w hp

set_option maxRecDepth 100000 in
theorem lifted (os : Os) (started : os.Started) (H : Type) (enc : TypeId × Value → H) :
    ReturnsInHanded {} Tryd.checked os 6 .any (fun w args => (Rows.prefixCommonSpec.pre enc Tryd.prog Tryd.f6 Rows.prefixCommonRow.domain false w args ∧ laidMet Tryd.prog Rows.prefixCommonRow.laid w) ∧ sizedMet enc Tryd.prog Tryd.f6 (OpenSpec.ofChange Rows.prefixCommonSpec) false w args)
      (Rows.prefixCommonSpec.post enc Tryd.prog Tryd.f6 false true false false) := by
  refine returnsInHanded_of_change_and (C := Tryd.checked) (X := fun w _ => laidMet Tryd.prog Rows.prefixCommonRow.laid w) (fun _ _ _ hh h => h.of_heap hh) own started (by kernel_rfl) Tryd.func6
    (ChangeSpec.witness_at (enc := enc) (C := Tryd.checked) (os := os) (X := fun w _ => laidMet Tryd.prog Rows.prefixCommonRow.laid w) false (laidWorld os) #[.int .u32 0, .int .u32 0, .int .u8 0, .int .u8 0, .int .u8 0] 8 rfl (by kernel_rfl) (by kernel_rfl) (by kernel_rfl) (by kernel_rfl) (by kernel_rfl) (laid_met os _)) ?_
  intro W base args ds gs before hval0 hW hcnd _ hL _
  have hval : ∀ (j : Nat) t v, Tryd.f6.params[j]? = some t → args[j]? = some v → Value.okWide Tryd.prog W .any base t v := hval0
  have hW' := hW
  obtain ⟨p, q, hA0, hV, rfl, hfz, hnd⟩ := hW
  have hA : DataW.TrodAll enc Tryd.prog W 0 (fun _ => true) true Tryd.f6.params.toList args.toList ds p := hA0
  rw [Tryd.params6] at hA hval
  obtain ⟨v0, vs0, d0, ds0, p0, q0, hargs, rfl, rfl, h0, r0⟩ := trodAll_cons hA
  obtain ⟨v1, vs1, d1, ds1, p1, q1, rfl, rfl, rfl, h1, r1⟩ := trodAll_cons r0
  obtain ⟨v2, vs2, d2, ds2, p2, q2, rfl, rfl, rfl, h2, r2⟩ := trodAll_cons r1
  obtain ⟨v3, vs3, d3, ds3, p3, q3, rfl, rfl, rfl, h3, r3⟩ := trodAll_cons r2
  obtain ⟨v4, vs4, d4, ds4, p4, q4, rfl, rfl, rfl, h4, r4⟩ := trodAll_cons r3
  obtain ⟨rfl, rfl, rfl⟩ := trodAll_nil r4
  obtain rfl : args = #[v0, v1, v2, v3, v4] := by cases args; simp_all
  obtain ⟨rfl, rfl⟩ := trodVars_none hV
  obtain ⟨a0, rfl, rfl, rfl, w0⟩ := open_int Tryd.underlying22 (hval 0 22 v0 rfl rfl) h0
  obtain ⟨a1, rfl, rfl, rfl, w1⟩ := open_int Tryd.underlying22 (hval 1 22 v1 rfl rfl) h1
  obtain ⟨a2, rfl, rfl, rfl, w2⟩ := open_int Tryd.underlying5 (hval 2 5 v2 rfl rfl) h2
  obtain ⟨a3, rfl, rfl, rfl, w3⟩ := open_int Tryd.underlying5 (hval 3 5 v3 rfl rfl) h3
  obtain ⟨a4, rfl, rfl, rfl, w4⟩ := open_int Tryd.underlying5 (hval 4 5 v4 rfl rfl) h4
  clear hA0 hval0
  refine (walk a0 a1 a2 a3 a4 W w0 w1 w2 w3 w4 (pow_of_laid hL)).mono fun e W' ⟨he, bel⟩ => ?_
  subst he
  exact ⟨_, rfl, _, _, _, [], _, [], hW', trodAll_mk1 (shut_bool Tryd.underlying4 _), (trodAll_cons_mk (shut_int Tryd.underlying22 w0) (trodAll_cons_mk (shut_int Tryd.underlying22 w1) (trodAll_cons_mk (shut_int Tryd.underlying5 w2) (trodAll_cons_mk (shut_int Tryd.underlying5 w3) (trodAll_cons_mk (shut_int Tryd.underlying5 w4) trodAll_mk0))))), rfl, bel.frame _, fun h => by cases h⟩

theorem over : Rows.prefixCommonRow.holds Tryd.pinned (OpenSpec.ofChange Rows.prefixCommonSpec) :=
  OpenClaim.holds_of_wide 6 Tryd.f6 rfl rfl rfl rfl rfl rfl rfl ⟨rfl, rfl, rfl, rfl, rfl⟩ rfl rfl rfl rfl rfl (by kernel_rfl) Tryd.func6 (by kernel_rfl)
    (of_decide_eq_true (by kernel_rfl)) (by unfold Func.isWrapper; first | (rw [if_pos (by decide +kernel)]; kernel_rfl) | (rw [if_neg (by decide +kernel)]; exact ⟨rfl, rfl⟩))
    (fun os started H enc _ => lifted os started H enc)

theorem proved : Rows.PrefixCommonCardSaid :=
  Claim7.holds_tied_plain_at .later [] [.data, .data, .data] true (true, "7cfdeb993fdfbec8b9b5e67db3be9459c695c22a0ecd678560527101ee5685f7") false
    over (fun _ h => by cases h) (by kernel_rfl) (fun _ h => by cases h) prefixCommon_row_tie rfl ⟨rfl, rfl⟩ (by kernel_rfl) rfl
    (fun f fn hf hfn => by
      obtain rfl : f = 6 := Option.some.inj ((show Tryd.prog.funcNamed "milestone/milestonelaw01.PrefixCommon" = some 6 by kernel_rfl).symm.trans hf) |>.symm
      obtain rfl : fn = Tryd.f6 := (Option.some.inj (Tryd.func6.symm.trans hfn)).symm
      exact ⟨by kernel_rfl, fun j t ht => by
        rw [Tryd.params6] at ht
        have hm : t ∈ [22, 22, 5, 5, 5] := by simpa using Array.mem_of_getElem? ht
        have hall : ([22, 22, 5, 5, 5].all fun u => !Tryd.prog.wantsStandIn u) = true := by kernel_rfl
        exact (show Tryd.prog.wantsStandIn t = false by simpa using List.all_eq_true.1 hall t hm)⟩)
    (by kernel_rfl)
#print axioms proved
end Go.Proofs.YtdfphpoakihkdaaDoor.prefixCommon
