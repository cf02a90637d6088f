/-
  'For every input the Go function milestonelaw17.EngineAsks returns true, and each argument reads behind the call as it read before.'
  Conditions: none but the row's own (linux/amd64, sizes of what is read within the address space).
-/
import Derived.Test.YtjbogjbopgcbhaaGreatDoorRows
import Derived.WalkKit
import Derived.ProofKit
import Derived.OpenShut
import Derived.ShutString
import Derived.ChangeOld
import Derived.Below
import Derived.Lib.SmallJoins
import Derived.Lib.Hide
import Derived.Test.YtjbogjbopgcbhaaGreatDoorZS
import Derived.Test.YtjbogjbopgcbhaaGreatDoorZLaid
import Derived.Test.YtjbogjbopgcbhaaGreatDoorCards
import Derived.Test.YtjbogjbopgcbhaaGreatDoorTie
import Derived.SevenTiedAt
import Derived.Laws.Closers25b
namespace Go.Proofs.YtjbogjbopgcbhaaGreatDoor.Eg.engineAsks
open Pre
open Ser
open Rts
open Go.Proofs.YtjbogjbopgcbhaaGreatDoor.Src (row1 row2 Mk SrcAt pA pN)
open Go.Proofs.YtjbogjbopgcbhaaGreatDoor.Lk (laidWorld laid_met)
open Go.ChangeShapes Go.WideShapes Go.ChangeAt Go.RowKit
open Go.ChangeMaps (open_string shut_string)
set_option linter.unusedVariables false
set_option maxRecDepth 8000

theorem own : ownKnob Tryz.prog.godebug = none := by kernel_rfl
theorem laidOut : laidOutB Tryz.prog = true := by kernel_rfl

/-- A part of kind 3; the request. -/
def PU (w : World) (g o : Nat) (tn td ta tl ts tm : Int) : Prop := w.cell? ⟨g, o, none⟩ = some (.int .u8 3) ∧ w.cell? ⟨g, o + 1, none⟩ = some (.int .u64 tn) ∧ w.cell? ⟨g, o + 2, none⟩ = some (.int .i64 td) ∧ w.cell? ⟨g, o + 3, none⟩ = some (.int .u32 ta) ∧ w.cell? ⟨g, o + 4, none⟩ = some (.int .u8 tl) ∧ w.cell? ⟨g, o + 5, none⟩ = some (.int .u16 ts) ∧ w.cell? ⟨g, o + 6, none⟩ = some (.int .u16 tm)
def PR (w : World) (g o pa pn s : Nat) : Prop := w.cell? ⟨g, o, none⟩ = some (.int .u8 4) ∧ w.cell? ⟨g, o + 1, none⟩ = some (.int .u64 8) ∧ w.cell? ⟨g, o + 2, none⟩ = some (.int .i64 0) ∧ w.cell? ⟨g, o + 3, none⟩ = some (.int .u32 (pa : Int)) ∧ w.cell? ⟨g, o + 4, none⟩ = some (.int .u8 (pn : Int)) ∧ w.cell? ⟨g, o + 5, none⟩ = some (.int .u16 (s : Int)) ∧ w.cell? ⟨g, o + 6, none⟩ = some (.int .u16 0)
set_option maxHeartbeats 16000000 in
theorem walk (a0 : Int) (a1 : Int) (a2 : Int) (a3 : Int) (w : World) (w0 : (Lit.int .u16 a0).wf = true) (w1 : (Lit.int .u16 a1).wf = true) (w2 : (Lit.int .u8 a2).wf = true) (w3 : (Lit.int .u16 a3).wf = true) (hp : Lk.Tab w) :
    Calls Tryz.prog 6 #[.int .u16 a0, .int .u16 a1, .int .u8 a2, .int .u16 a3] w fun e w' => e = .returned (.bool true) ∧ Below w.heap.size w w' := by
  have b0 := bounds_u16 w0
  have b1 := bounds_u16 w1
  have b2 := bounds_u8 w2
  have b3 := bounds_u16 w3
  obtain ⟨x, rfl⟩ := Int.eq_ofNat_of_zero_le b0.1
  obtain ⟨s, rfl⟩ := Int.eq_ofNat_of_zero_le b1.1
  obtain ⟨p, rfl⟩ := Int.eq_ofNat_of_zero_le b2.1
  obtain ⟨ak, rfl⟩ := Int.eq_ofNat_of_zero_le b3.1
  clear w0 w1 w2 w3
  have h0 := Lk.tab_size hp
  have HT := Lib.hid hp
  clear hp
  by_cases hf : x ≤ 60000
  · have hd : decide ((60000 : Int) < (x : Int)) = false := by simp; omega
    have h96 : x + 96 < 65535 := by omega
    obtain ⟨pa, hpa⟩ : ∃ pa, pa = pA p := ⟨_, rfl⟩
    obtain ⟨pn, hpn⟩ : ∃ pn, pn = pN p := ⟨_, rfl⟩
    have hpl : pn < 256 := by rw [hpn]; have := Src.pN_le p; omega
    obtain ⟨s1, hs1⟩ : ∃ s1, s1 = (s + 1) % 65536 := ⟨_, rfl⟩
    have hs1l : s1 < 65536 := by omega
    have hnw : newer (s1 : Int) (s : Int) = true := by unfold newer; rw [decide_eq_true_iff]; omega
    have hw1 : ((s : Int) + 1) % 65536 = (s1 : Int) := by omega
    obtain ⟨so, hso⟩ : ∃ so, so = (if newer (ak : Int) 1 then 2 else 1 : Nat) := ⟨_, rfl⟩
    have e1 : (Eg.one (pA p) (pN p) 1 s x 2).length = 1 := by rw [one_eq (by omega)]; rfl
    have e2 : (Eg.one (pA p) (pN p) 1 s (x + 97) 2).length = 1 := by rw [one_eq (by omega)]; rfl
    have e3 : (Eg.one (pA p) (pN p) 1 s1 (x + 97) 3).length = 1 := by rw [one_eq (by omega)]; rfl
    have CP : Hid (∀ W, Calls Tryz.prog 19 #[.int .u8 (p : Int)] W fun e w' => e = .returned (.agg #[.int .u32 (pa : Int), .int .u8 (pn : Int)]) ∧ Below W.heap.size W w') := Lib.hid fun W => by rw [hpa, hpn]; exact Src.prefix_n p (by omega) W
    have HM : Hid (∀ W, Lk.Tab W → Calls Tryz.prog 14 #[.int .u16 96, .int .u16 96] W fun en w' => ∃ q w1, en = .returned (.pointer (some ⟨q, 0, none⟩)) ∧ Below W.heap.size W w1 ∧ LW w1 w' q (Eng.m0 96 96) []) := Lib.hid fun W h => met_any W 96 96 (by decide) (by decide) h
    have CU1 : Hid (∀ W, Calls Tryz.prog 16 #[.int .u8 (p : Int), .int .u16 (s : Int), .int .u16 (x : Int)] W fun en w' => en = .returned (.agg #[.int .u8 3, .int .u64 0, .int .i64 3, .int .u32 (pa : Int), .int .u8 (pn : Int), .int .u16 (s : Int), .int .u16 (x : Int)]) ∧ Below W.heap.size W w') := Lib.hid fun W => by
      have h9 := up_any W p s x (by omega)
      rw [hpa, hpn]
      exact h9
    have CU2 : Hid (∀ W, Calls Tryz.prog 16 #[.int .u8 (p : Int), .int .u16 (s : Int), .int .u16 ((x : Int) + 97)] W fun en w' => en = .returned (.agg #[.int .u8 3, .int .u64 0, .int .i64 3, .int .u32 (pa : Int), .int .u8 (pn : Int), .int .u16 (s : Int), .int .u16 ((x : Int) + 97)]) ∧ Below W.heap.size W w') := Lib.hid fun W => by
      have h9 := up_any W p s (x + 97) (by omega)
      rw [show ((x + 97 : Nat) : Int) = (x : Int) + 97 by omega] at h9
      rw [hpa, hpn]
      exact h9
    have CU3 : Hid (∀ W, Calls Tryz.prog 16 #[.int .u8 (p : Int), .int .u16 (s1 : Int), .int .u16 ((x : Int) + 97)] W fun en w' => en = .returned (.agg #[.int .u8 3, .int .u64 0, .int .i64 3, .int .u32 (pa : Int), .int .u8 (pn : Int), .int .u16 (s1 : Int), .int .u16 ((x : Int) + 97)]) ∧ Below W.heap.size W w') := Lib.hid fun W => by
      have h9 := up_any W p s1 (x + 97) (by omega)
      rw [show ((x + 97 : Nat) : Int) = (x : Int) + 97 by omega] at h9
      rw [hpa, hpn]
      exact h9
    have HH1 : Hid (∀ w1 W q, LW w1 W q (Eng.m0 96 96) [] → Calls Tryz.prog 15 #[.pointer (some ⟨q, 0, none⟩), .agg #[.int .i64 1, .slice (some ⟨W.heap.size, 0, none⟩) 1 1], .int .i64 0, .int .u64 2] (W.alloc (.cells #[.int .u8 3, .int .u64 0, .int .i64 3, .int .u32 (pa : Int), .int .u8 (pn : Int), .int .u16 (s : Int), .int .u16 (x : Int)] 32)) fun en w' => en = .returned (.tuple #[]) ∧ ∃ e1, LW w1 w' q e1 [] ∧ St 96 96 p (Eg.one (pA p) (pN p) 1 s x 2) none 0 0 0 e1 ∧ e1.he = 0 ∧ e1.rq = []) := Lib.hid fun w1 W q h => by
      have st := (St.m0 96 96 p).upd 1 2 s x
      rw [tell_one] at st
      have h9 := hear_12 (h.add #[.int .u8 3, .int .u64 0, .int .i64 3, .int .u32 (pa : Int), .int .u8 (pn : Int), .int .u16 (s : Int), .int .u16 (x : Int)] 32) (m0_met 96 96) (row_up W 3 pa pn s x) (by rw [hpa, hpn]; exact uP_ok (by omega) (by omega)) rfl (by show 0 ≤ 100; decide)
      refine h9.mono ?_
      rintro en w' ⟨rfl, hL⟩
      refine ⟨rfl, _, hL, by rw [hpa, hpn]; exact st, ?_, ?_⟩
      · unfold Eng.upd; split <;> rfl
      · unfold Eng.upd; split <;> rfl
    have HS1 : Hid (∀ w1 W q e, LW w1 W q e [] → (St 96 96 p (Eg.one (pA p) (pN p) 1 s x 2) none 0 0 0 e ∧ e.he = 0 ∧ e.rq = []) → Calls Tryz.prog 17 #[.pointer (some ⟨q, 0, none⟩)] W fun en w' => ∃ v' e', en = .returned v' ∧ LW w1 w' q e' [] ∧ St 96 96 p (Eg.one (pA p) (pN p) 1 s x 2) (some (s, x + 96)) 2 0 2 e' ∧ e'.he = 0 ∧ e'.rq = []) := Lib.hid fun w1 W q e h hP => by
      have so9 := hP.1.sok (AllP.one p 1 s x 2) (by rw [e1]; decide) (by decide)
      refine (select_lw h so9).mono ?_
      rintro en w' ⟨v', e', ts, rfl, hS, hL, -⟩
      obtain ⟨k1, k2, -⟩ := hP.1.sel so9 h.ok hS
      have k3 : selP e.cf e.f (Eg.one (pA p) (pN p) 1 s x 2) (pA p) (pN p) = some ⟨pA p, pN p, 1, x + 96, s⟩ := by
        rw [selP_one (by omega), hP.1.met.cf1, feas_none hP.1.f]
        exact if_pos ⟨show x + max 96 1 < 65535 by omega, Or.inr rfl⟩
      rw [k3, e1] at k2
      have k4 : mkTo none (e.f.best (pA p) (pN p)) (some ⟨pA p, pN p, 1, x + 96, s⟩) = (some (s, x + 96)) := by
        show some (e.f.best (pA p) (pN p) (s, x + 96)) = _
        rw [best_none hP.1.f]
      rw [k4] at k2
      refine ⟨v', e', rfl, hL, k2, by rw [(hS.chose h.ok so9).1.keep]; exact hP.2.1, ?_⟩
      rw [ask_none hS fun a n => ?_]
      · exact hP.2.2
      · rw [hP.1.L, one_eq (by omega)]
        by_cases hq : pA p = a ∧ pN p = n
        · refine Or.inr ⟨⟨pA p, pN p, 1, 3, s, x, 52⟩, by simp [ofp, hq], ?_⟩
          show e'.f.feas (pA p) (pN p) (s, x) = true
          rw [feas_same k2.f]
          simp
        · exact Or.inl (by simp [ofp]; exact fun h1 h2 => hq ⟨h1, h2⟩)
    have HH2 : Hid (∀ w1 W q e, LW w1 W q e [] → (St 96 96 p (Eg.one (pA p) (pN p) 1 s x 2) (some (s, x + 96)) 2 0 2 e ∧ e.he = 0 ∧ e.rq = []) → Calls Tryz.prog 15 #[.pointer (some ⟨q, 0, none⟩), .agg #[.int .i64 1, .slice (some ⟨W.heap.size, 0, none⟩) 1 1], .int .i64 0, .int .u64 2] (W.alloc (.cells #[.int .u8 3, .int .u64 0, .int .i64 3, .int .u32 (pa : Int), .int .u8 (pn : Int), .int .u16 (s : Int), .int .u16 ((x : Int) + 97)] 32)) fun en w' => en = .returned (.tuple #[]) ∧ ∃ e', LW w1 w' q e' [] ∧ St 96 96 p (Eg.one (pA p) (pN p) 1 s (x + 97) 2) (some (s, x + 96)) 2 0 2 e' ∧ e'.he = 0 ∧ e'.rq = []) := Lib.hid fun w1 W q e h hP => by
      have st := hP.1.upd 1 2 s (x + 97)
      rw [tell_put1 _ _ _ _ _ _ _ _ (by omega) (by omega)] at st
      have hr := row_up W 3 pa pn s (x + 97)
      rw [show ((x + 97 : Nat) : Int) = (x : Int) + 97 by omega] at hr
      have h9 := hear_12 (h.add #[.int .u8 3, .int .u64 0, .int .i64 3, .int .u32 (pa : Int), .int .u8 (pn : Int), .int .u16 (s : Int), .int .u16 ((x : Int) + 97)] 32) hP.1.met hr (by rw [hpa, hpn]; exact uP_ok (by omega) (by omega)) rfl (by rw [hP.1.L, e1]; decide)
      refine h9.mono ?_
      rintro en w' ⟨rfl, hL⟩
      refine ⟨rfl, _, hL, by rw [hpa, hpn]; exact st, ?_, ?_⟩
      · refine Eq.trans ?_ hP.2.1
        unfold Eng.upd; split <;> rfl
      · refine Eq.trans ?_ hP.2.2
        unfold Eng.upd; split <;> rfl
    have HS2 : Hid (∀ w1 W q e, LW w1 W q e [] → (St 96 96 p (Eg.one (pA p) (pN p) 1 s (x + 97) 2) (some (s, x + 96)) 2 0 2 e ∧ e.he = 0 ∧ e.rq = []) → Calls Tryz.prog 17 #[.pointer (some ⟨q, 0, none⟩)] W fun en w' => ∃ v' e', en = .returned v' ∧ LW w1 w' q e' [] ∧ St 96 96 p (Eg.one (pA p) (pN p) 1 s (x + 97) 2) (some (s, x + 96)) 4 2 2 e' ∧ e'.he = 0 ∧ e'.rq = [⟨4, 8, 0, pa, pn, s1, 0⟩] ∧ look e'.ch pa pn = none) := Lib.hid fun w1 W q e h hP => by
      have so9 := hP.1.sok (AllP.one p 1 s (x + 97) 2) (by rw [e2]; decide) (by decide)
      refine (select_lw h so9).mono ?_
      rintro en w' ⟨v', e', ts, rfl, hS, hL, -⟩
      obtain ⟨k1, k2, -⟩ := hP.1.sel so9 h.ok hS
      have k3 : selP e.cf e.f (Eg.one (pA p) (pN p) 1 s (x + 97) 2) (pA p) (pN p) = none := by
        rw [selP_one (by omega), feas_same hP.1.f]
        exact if_neg (by simp; omega)
      rw [k3] at k1
      rw [k3, e2] at k2
      have hlk : look e'.ch pa pn = none := by rw [hpa, hpn]; exact k1
      refine ⟨v', e', rfl, hL, k2, by rw [(hS.chose h.ok so9).1.keep]; exact hP.2.1, ?_, hlk⟩
      have k5 := ask_one hS (a := pa) (n := pn) (s := s) (k := x + 96) hpl (by rw [hP.1.L, one_eq (by omega)]; exact List.cons_ne_nil _ _) (fun y hy => by rw [hP.1.L] at hy; rw [hpa, hpn]; exact AllP.one p 1 s (x + 97) 2 y hy) (fun y hy => ?_) (by rw [hpa, hpn]; exact k2.f) hlk hP.2.2
      · rw [hs1]; exact k5
      · rw [hP.1.L, one_eq (by omega), List.mem_singleton] at hy
        subst hy
        show e'.f.feas (pA p) (pN p) (s, x + 97) = false
        rw [feas_same k2.f]
        simp; omega
    have HR2 : Hid (∀ w1 W q e, LW w1 W q e [] → (St 96 96 p (Eg.one (pA p) (pN p) 1 s (x + 97) 2) (some (s, x + 96)) 4 2 2 e ∧ e.he = 0 ∧ e.rq = [⟨4, 8, 0, pa, pn, s1, 0⟩] ∧ look e.ch pa pn = none) → Calls Tryz.prog 18 #[.pointer (some ⟨q, 0, none⟩), .agg #[.int .u32 (pa : Int), .int .u8 (pn : Int)]] W fun en w' => en = .returned (.tuple #[.agg #[.int .u32 0, .int .u8 0, .int .i64 0, .int .u16 0, .int .u16 0], .bool false]) ∧ LW w1 w' q e []) := Lib.hid fun w1 W q e h hP => by
      have h9 := route_lw h pa pn hpl
      rw [hP.2.2.2] at h9
      exact h9
    have HT3 : Hid (∀ w1 W q e, LW w1 W q e [] → (St 96 96 p (Eg.one (pA p) (pN p) 1 s (x + 97) 2) (some (s, x + 96)) 4 2 2 e ∧ e.he = 0 ∧ e.rq = [⟨4, 8, 0, pa, pn, s1, 0⟩] ∧ look e.ch pa pn = none) → Calls Tryz.prog 24 #[.pointer (some ⟨q, 0, none⟩), .int .u64 3, .slice none 0 0] W fun en w' => ∃ g7 o7 n7 c7 U e', en = .returned (.tuple #[.agg #[.int .i64 0, .slice (some ⟨g7, o7, none⟩) n7 c7], .bool true]) ∧ n7 = U.length + 1 ∧ n7 ≤ c7 ∧ n7 ≤ 1000 ∧ GSl 7 Pt.cl w' (some ⟨g7, o7, none⟩) (U ++ [⟨4, 8, 0, pa, pn, s1, 0⟩]) ∧ (∀ t ∈ U, t.k = 3) ∧ LW w1 w' q e' [] ∧ St 96 96 p (Eg.one (pA p) (pN p) 1 s (x + 97) 2) (some (s, x + 96)) 4 2 2 e') := Lib.hid fun w1 W q e h hP => by
      refine (tell_lw h (by rw [hP.2.1]; decide) (Nat.le_trans hP.1.sz.2.1 (by decide)) 3 none 0 0 [] rfl (by decide) (fun j hj => absurd hj (Nat.not_lt_zero j)) (Or.inl rfl)).mono ?_
      rintro en w' ⟨A, n, c, rfl, hn, hs, -, hle, hL⟩
      have e8 : e.tellP 3 [] = (if e.due = true ∨ 3 % 8 = 0 then e.upds [] else []) ++ [⟨4, 8, 0, pa, pn, s1, 0⟩] := by
        unfold Eng.tellP
        rw [if_neg (by decide), List.nil_append, hP.2.2.1]
      have hU : ∀ t ∈ (if e.due = true ∨ 3 % 8 = 0 then e.upds [] else []), t.k = 3 := fun t ht => by
        split at ht
        · unfold Eng.upds Eng.goneL at ht
          rcases List.mem_append.1 ht with ht | ht
          · obtain ⟨y, -, rfl⟩ := List.mem_map.1 ht; rfl
          · obtain ⟨y, -, rfl⟩ := List.mem_map.1 ht; rfl
        · cases ht
      have hUl : (if e.due = true ∨ 3 % 8 = 0 then e.upds [] else []).length ≤ 800 := by
        split
        · unfold Eng.upds Eng.goneL
          rw [List.length_append, List.length_map, List.length_map]
          have q1 := List.length_filter_le (fun p => !e.hasP p.1 p.2) e.lost
          have q2 := hP.1.sz.2.1
          have q3 := hP.1.sz.2.2
          omega
        · exact Nat.zero_le _
      rw [e8] at hn hs ⊢
      generalize (if e.due = true ∨ 3 % 8 = 0 then e.upds [] else []) = U at *
      have hn1 : n = U.length + 1 := by rw [hn, List.length_append]; rfl
      obtain ⟨g7, o7, rfl, -, -⟩ := hs 0 (by rw [List.length_append]; exact Nat.succ_pos _)
      refine ⟨g7, o7, n, c, U, e.tellE 3, ?_, hn1, hle, by omega, hs, hU, hL, ⟨hP.1.met.tell 3, hP.1.L, hP.1.f, hP.1.sz.1, ?_, hP.1.sz.2.2⟩⟩
      · have hne : U ++ [(⟨4, 8, 0, pa, pn, s1, 0⟩ : Pt)] ≠ [] := by simp
        rw [if_neg hne, hP.1.met.id, decide_eq_true hne]; rfl
      · show (if e.due = true ∨ 3 % 8 = 0 then [] else e.lost).length ≤ 2
        split
        · exact Nat.zero_le _
        · exact hP.1.sz.2.1
    have HHO : Hid (∀ w1 W q e K, LW w1 W q e K → (St 96 96 p (Eg.one (pA p) (pN p) 1 s (x + 97) 2) (some (s, x + 96)) 4 2 2 e) → Calls Tryz.prog 15 #[.pointer (some ⟨q, 0, none⟩), .agg #[.int .i64 2, .slice (some ⟨W.heap.size, 0, none⟩) 1 1], .int .i64 0, .int .u64 3] (W.alloc (.cells #[.int .u8 4, .int .u64 0, .int .i64 0, .int .u32 201326592, .int .u8 24, .int .u16 (ak : Int), .int .u16 0] 32)) fun en w' => en = .returned (.tuple #[]) ∧ ∃ e', LW w1 w' q e' K ∧ StS 96 96 so p (Eg.one (pA p) (pN p) 1 s (x + 97) 2) (some (s, x + 96)) 4 2 2 e') := Lib.hid fun w1 W q e K h hP => by
      have h9 := hear_rq (k := 2) (now := 3) (u := ⟨4, 0, 0, 201326592, 24, ak, 0⟩) (h.add #[.int .u8 4, .int .u64 0, .int .i64 0, .int .u32 201326592, .int .u8 24, .int .u16 (ak : Int), .int .u16 0] 32) hP.met (row_pt W ⟨4, 0, 0, 201326592, 24, ak, 0⟩) ⟨show 4 < 256 by decide, show 0 < 4611686018427387904 by decide, show 0 < 16 by decide, show 201326592 < 4294967296 by decide, show 24 < 256 by decide, right_own, show ak < 65536 by omega, show 0 ≤ 65535 by decide⟩ rfl (Or.inr rfl) (by rw [hP.L, e2]; decide) (by decide)
      refine h9.mono ?_
      rintro en w' ⟨rfl, hL⟩
      have k1 : e.req ⟨4, 0, 0, 201326592, 24, ak, 0⟩ = { e with own := [oS so], due := true } := by
        unfold Eng.req
        have k2 : e.isOwn 201326592 24 = true := by rw [hP.met.isOwn]; rfl
        rw [if_pos (show e.isOwn (⟨4, 0, 0, 201326592, 24, ak, 0⟩ : Pt).a (⟨4, 0, 0, 201326592, 24, ak, 0⟩ : Pt).l = true from k2)]
        have k3 : (e.own.modify (e.own.findIdx (Hm.is 201326592 24)) fun h => h.next ak) = [oS so] := by
          rw [hP.met.own, hso]
          have k4 : List.findIdx (Hm.is 201326592 24) [oH] = 0 := rfl
          rw [k4]
          show [oH.next ak] = _
          unfold Hm.next
          by_cases k5 : newer (ak : Int) 1 = true
          · rw [if_pos k5, if_pos (show newer (ak : Int) (oH.s : Int) = true from k5)]; rfl
          · rw [if_neg k5, if_neg (show ¬ newer (ak : Int) (oH.s : Int) = true from k5)]; rfl
        show ({ e with own := e.own.modify (e.own.findIdx (Hm.is 201326592 24)) (fun h => h.next ak), due := true } : Eng) = _
        rw [k3]
      rw [k1] at hL
      exact ⟨rfl, _, hL, ⟨⟨hP.met.id, rfl, hP.met.nb, hP.met.st, hP.met.fu, hP.met.nr⟩, hP.L, hP.f, hP.sz⟩⟩
    have HS3 : Hid (∀ w1 W q e K, LW w1 W q e K → (StS 96 96 so p (Eg.one (pA p) (pN p) 1 s (x + 97) 2) (some (s, x + 96)) 4 2 2 e) → Calls Tryz.prog 17 #[.pointer (some ⟨q, 0, none⟩)] W fun en w' => ∃ v' e', en = .returned v' ∧ LW w1 w' q e' K ∧ StS 96 96 so p (Eg.one (pA p) (pN p) 1 s (x + 97) 2) (some (s, x + 96)) 6 4 2 e' ∧ look e'.ch 201326592 24 = some ⟨201326592, 24, 0, 0, so⟩) := Lib.hid fun w1 W q e K h hP => by
      have so9 := hP.sok (AllP.one p 1 s (x + 97) 2) (by rw [e2]; decide) (by decide)
      refine (select_lw h so9).mono ?_
      rintro en w' ⟨v', e', ts, rfl, hS, hL, -⟩
      obtain ⟨k1, k2, k6, -⟩ := hP.sel so9 h.ok hS
      have k3 : selP e.cf e.f (Eg.one (pA p) (pN p) 1 s (x + 97) 2) (pA p) (pN p) = none := by
        rw [selP_one (by omega), feas_same hP.f]
        exact if_neg (by simp; omega)
      rw [k3, e2] at k2
      exact ⟨v', e', rfl, hL, k2, k6⟩
    have HRO : Hid (∀ w1 W q e K, LW w1 W q e K → (StS 96 96 so p (Eg.one (pA p) (pN p) 1 s (x + 97) 2) (some (s, x + 96)) 6 4 2 e ∧ look e.ch 201326592 24 = some ⟨201326592, 24, 0, 0, so⟩) → Calls Tryz.prog 18 #[.pointer (some ⟨q, 0, none⟩), .agg #[.int .u32 201326592, .int .u8 24]] W fun en w' => en = .returned (.tuple #[.agg #[.int .u32 201326592, .int .u8 24, .int .i64 0, .int .u16 0, .int .u16 (so : Int)], .bool true]) ∧ LW w1 w' q e K) := Lib.hid fun w1 W q e K h hP => by
      have h9 := route_lw h 201326592 24 (by decide)
      rw [hP.2] at h9
      exact h9
    have HH4 : Hid (∀ w1 W q e K, LW w1 W q e K → (StS 96 96 so p (Eg.one (pA p) (pN p) 1 s (x + 97) 2) (some (s, x + 96)) 6 4 2 e ∧ look e.ch 201326592 24 = some ⟨201326592, 24, 0, 0, so⟩) → Calls Tryz.prog 15 #[.pointer (some ⟨q, 0, none⟩), .agg #[.int .i64 1, .slice (some ⟨W.heap.size, 0, none⟩) 1 1], .int .i64 0, .int .u64 3] (W.alloc (.cells #[.int .u8 3, .int .u64 0, .int .i64 3, .int .u32 (pa : Int), .int .u8 (pn : Int), .int .u16 (s1 : Int), .int .u16 ((x : Int) + 97)] 32)) fun en w' => en = .returned (.tuple #[]) ∧ ∃ e', LW w1 w' q e' K ∧ StS 96 96 so p (Eg.one (pA p) (pN p) 1 s1 (x + 97) 3) (some (s, x + 96)) 6 4 2 e') := Lib.hid fun w1 W q e K h hP => by
      have st := hP.1.upd 1 3 s1 (x + 97)
      rw [tell_put1 _ _ _ _ _ _ _ _ (by omega) (by omega)] at st
      have hr := row_up W 3 pa pn s1 (x + 97)
      rw [show ((x + 97 : Nat) : Int) = (x : Int) + 97 by omega] at hr
      have h9 := hear_oneS (k := 1) (now := 3) (h.add #[.int .u8 3, .int .u64 0, .int .i64 3, .int .u32 (pa : Int), .int .u8 (pn : Int), .int .u16 (s1 : Int), .int .u16 ((x : Int) + 97)] 32) hP.1.met hr (by rw [hpa, hpn]; exact uP_ok (by omega) (by omega)) rfl (Or.inl rfl) (by rw [hP.1.L, e2]; decide) (by decide)
      refine h9.mono ?_
      rintro en w' ⟨rfl, hL⟩
      exact ⟨rfl, _, hL, by rw [hpa, hpn]; exact st⟩
    have HS4 : Hid (∀ w1 W q e K, LW w1 W q e K → (StS 96 96 so p (Eg.one (pA p) (pN p) 1 s1 (x + 97) 3) (some (s, x + 96)) 6 4 2 e) → Calls Tryz.prog 17 #[.pointer (some ⟨q, 0, none⟩)] W fun en w' => ∃ v' e', en = .returned v' ∧ LW w1 w' q e' K ∧ look e'.ch pa pn = some ⟨pa, pn, 1, x + 193, s1⟩) := Lib.hid fun w1 W q e K h hP => by
      have so9 := hP.sok (AllP.one p 1 s1 (x + 97) 3) (by rw [e3]; decide) (by decide)
      refine (select_lw h so9).mono ?_
      rintro en w' ⟨v', e', ts, rfl, hS, hL, -⟩
      obtain ⟨k1, -⟩ := hP.sel so9 h.ok hS
      refine ⟨v', e', rfl, hL, ?_⟩
      rw [hpa, hpn, k1, selP_one (by omega), hP.met.cf1]
      have k3 : e.f.feas (pA p) (pN p) (s1, x + 97) = true := by
        unfold Mk.feas
        rw [hP.f]
        show (decide _ || nearer (s1 : Int) _ (s : Int) _) = true
        unfold nearer
        rw [hnw]; simp
      rw [if_pos ⟨show x + 97 + max 96 1 < 65535 by omega, Or.inr k3⟩]
      show some (⟨pA p, pN p, 1, x + 97 + max 96 1, s1⟩ : Ro) = _
      rw [show x + 97 + max 96 1 = x + 193 by omega]
    have HR4 : Hid (∀ w1 W q e K, LW w1 W q e K → (look e.ch pa pn = some ⟨pa, pn, 1, x + 193, s1⟩) → Calls Tryz.prog 18 #[.pointer (some ⟨q, 0, none⟩), .agg #[.int .u32 (pa : Int), .int .u8 (pn : Int)]] W fun en w' => en = .returned (.tuple #[.agg #[.int .u32 (pa : Int), .int .u8 (pn : Int), .int .i64 1, .int .u16 ((x : Int) + 193), .int .u16 (s1 : Int)], .bool true]) ∧ LW w1 w' q e K) := Lib.hid fun w1 W q e K h hP => by
      have h9 := route_lw h pa pn hpl
      rw [hP] at h9
      exact h9
    have HSO := Lib.hid hso
    have HW1 : Hid (((s : Int) + 1) % 65536 = (s1 : Int) ∧ IntKind.u16.wrap ((s : Int) + 1) = (s1 : Int)) := Lib.hid ⟨hw1, by rw [IntKind.wrap_u16]; exact hw1⟩
    have HNW : Hid (∀ W, Calls Tryz.prog 26 #[.int .u16 (ak : Int), .int .u16 1] W fun e w' => e = .returned (.bool (newer (ak : Int) 1)) ∧ W = w') := Lib.hid fun W => rnewer_any (ak : Int) 1 (by omega) (by omega) W
    clear hpa hpn hs1 hnw e1 e2 e3 hpl h96 hso hw1
    go_enter Tryz.func6, Tryz.ntmps6
    go_upto_region 9 with (first
      | (go_at_call 13; (with_reducible refine (awake_any w HT.out).mono ?_); rintro en wa ⟨rfl, hB⟩; have HA := Lib.hid (And.intro hB (Lk.tab_below HT.out hB h0)); clear hB)
      | (go_at_call 14; (with_reducible refine (HM.out _ HA.out.2).mono ?_); rintro en w2 ⟨q, w1, rfl, hB, hL⟩; have H1 := Lib.hid (HA.out.1.trans (hB.mono HA.out.1.size)); have HL := Lib.hid hL; clear hB hL HM)
      | (go_at_call 16; (with_reducible refine (CU1.out _).mono ?_); rintro en w3 ⟨rfl, hB⟩; have HL3 := Lib.hid (HL.out.step hB); clear hB HL CU1)
      | (go_at_call 15; (with_reducible refine (HH1.out _ _ _ HL3.out).mono ?_); rintro en w4 ⟨rfl, e4, hL, hP⟩; have HL4 := Lib.hid hL; have HP4 := Lib.hid hP; clear hL hP HL3 HH1)
      | (go_at_call 17; (with_reducible refine (HS1.out _ _ _ _ HL4.out HP4.out).mono ?_); rintro en w5 ⟨v5, e5, rfl, hL, hP⟩; have HL5 := Lib.hid hL; have HP5 := Lib.hid hP; clear hL hP HL4 HP4 HS1)
      | (go_at_call 16; (with_reducible refine (CU2.out _).mono ?_); rintro en w6 ⟨rfl, hB⟩; have HL6 := Lib.hid (HL5.out.step hB); clear hB HL5 CU2)
      | (go_at_call 15; (with_reducible refine (HH2.out _ _ _ _ HL6.out HP5.out).mono ?_); rintro en w7 ⟨rfl, e7, hL, hP⟩; have HL7 := Lib.hid hL; have HP7 := Lib.hid hP; clear hL hP HL6 HP5 HH2)
      | (go_at_call 17; (with_reducible refine (HS2.out _ _ _ _ HL7.out HP7.out).mono ?_); rintro en w8 ⟨v8, e8, rfl, hL, hP⟩; have HL8 := Lib.hid hL; have HP8 := Lib.hid hP; clear hL hP HL7 HP7 HS2)
      | (go_at_call 19; (with_reducible refine (CP.out _).mono ?_); rintro en w9 ⟨rfl, hB⟩; have HL9 := Lib.hid (HL8.out.step hB); clear hB HL8)
      | (go_at_call 18; (with_reducible refine (HR2.out _ _ _ _ HL9.out HP8.out).mono ?_); rintro en wb ⟨rfl, hL⟩; have HLb := Lib.hid hL; clear hL HL9 HR2))
    have BX := (Below.refl wb.heap.size wb).alloc (Nat.le_refl _) (.cells #[.int .u32 0, .int .u8 0, .int .i64 0, .int .u16 0, .int .u16 0] 40)
    have HLc := Lib.hid (HLb.out.step BX)
    clear BX HLb
    generalize wb.alloc _ = wc at *
    go_upto_region 10 with (go_at_call 24; (with_reducible refine (HT3.out _ _ _ _ HLc.out HP8.out).mono ?_); rintro en wd ⟨g7, o7, n7, c7, U, e9, rfl, hn7, hc7, hn7l, hgs, hU, hL, hP⟩; have HLd := Lib.hid hL; have HP9 := Lib.hid hP; have HG7 := Lib.hid (And.intro hn7 (And.intro hgs hU)); clear hL hP HLc HP8 HT3 hgs hU hn7)
    have BX := (Below.refl wd.heap.size wd).alloc (Nat.le_refl _) (.cells #[.int .i64 0, .slice (some ⟨g7, o7, none⟩) n7 c7] 36)
    have HBX := Lib.hid (heap_alloc_new wd (.cells #[.int .i64 0, .slice (some ⟨g7, o7, none⟩) n7 c7] 36))
    have HLe := Lib.hid (HLd.out.step BX)
    have HGE := Lib.hid (HG7.out.2.1.below BX)
    clear BX HLd
    generalize wd.alloc _ = we at *
    generalize wd.heap.size = bx at *
    obtain ⟨q0, q1, -⟩ := row2 HBX.out
    have hbl := (Array.getElem?_eq_some_iff.1 HBX.out).1
    go_wp2
    go_loopw [14, 15] (fun v iv wr => ∃ i : Nat, i ≤ n7 ∧ iv = .int .i64 i ∧ v = .bool (decide (i = n7)) ∧ Hid (Below we.heap.size we wr)) (fun _ iv _ => n7 - (intOf iv).toNat)
    case atStart => exact ⟨0, Nat.zero_le _, rfl, by rw [decide_eq_false (by have := HG7.out.1; omega)], Lib.hid (Below.refl _ _)⟩
    case round =>
      obtain ⟨i, hi, rfl, hv, HB⟩ := hrel
      obtain ⟨q0, q1, -⟩ := row2 (brow HB.out HBX.out)
      have hbl := (Array.getElem?_eq_some_iff.1 (brow HB.out HBX.out)).1
      by_cases hlt : i < n7
      · rw [decide_eq_false (by omega)] at hv
        subst hv
        have hil : i < (U ++ [(⟨4, 8, 0, pa, pn, s1, 0⟩ : Pt)]).length := by rw [List.length_append]; show i < U.length + 1; rw [← HG7.out.1]; exact hlt
        obtain ⟨b9, o9, e9', hb9, hc9⟩ := HGE.out i hil
        injection e9' with e9'
        injection e9' with e9' e9''
        subst e9' e9''
        by_cases hu : i < U.length
        · have ht : (U ++ [(⟨4, 8, 0, pa, pn, s1, 0⟩ : Pt)])[i] = U[i] := List.getElem_append_left hu
          rw [ht] at hc9
          have htk := HG7.out.2.2 _ (List.getElem_mem hu)
          have hdn : decide (i + 1 = n7) = false := decide_eq_false (by have := HG7.out.1; omega)
          have HDN := Lib.hid hdn
          generalize U[i] = t at *
          obtain ⟨tk, tn, td, ta, tl, ts, tm⟩ := t
          have htk : tk = 3 := htk
          subst htk
          have HPC : Hid (PU we g7 (o7 + i * 7) (tn : Int) (td : Int) (ta : Int) (tl : Int) (ts : Int) (tm : Int)) := Lib.hid ⟨hc9 0 (by decide), hc9 1 (by decide), hc9 2 (by decide), hc9 3 (by decide), hc9 4 (by decide), hc9 5 (by decide), hc9 6 (by decide)⟩
          have HGL := Lib.hid hb9
          clear hc9 ht hb9 hdn hu hil
          unfold PU at HPC
          go_upto_region 14 with (fail)
          clear q0 q1 hbl
          refine wp_region_noPanic ?_
          refine wp_region_held_drew (S := fun y9 : World => Below wr.heap.size wr y9) (by kernel_rfl) ((Below.refl _ _).drew) (fun hHeld => ?_)
          generalize wr.drew = wd at *
          refine wpAnyH_take (i := 0) (oi := { dst := some 69, op := Op.move (Operand.tmp 14), type := 4, pos := "law.go:187", after := #[], guard := none }) (v := .bool false) rfl (by kernel_rfl) (by kernel_rfl) (by kernel_rfl) (fun _ _ _ h => h) (Or.inl ⟨by rfl, fun w hSw => by go_simp⟩) (by assumption) ?_
          try simp only [Act.put, List.setIfInBounds_toArray, List.set_cons_zero, List.set_cons_succ]
          refine wpAnyH_take (i := 1) (oi := { dst := some 70, op := Op.move (Operand.tmp 69), type := 4, pos := "law.go:187", after := #[{ on := 0, ground := Ground.data }], guard := none }) (v := .bool false) rfl (by kernel_rfl) (by kernel_rfl) (by kernel_rfl) (fun _ _ _ h => h) (Or.inl ⟨by rfl, fun w hSw => by go_simp⟩) (by assumption) ?_
          try simp only [Act.put, List.setIfInBounds_toArray, List.set_cons_zero, List.set_cons_succ]
          refine wpAnyH_take (i := 2) (oi := { dst := some 71, op := Op.fieldAddr 36 (Operand.tmp 12) 1, type := 0, pos := "law.go:187", after := #[{ on := 1, ground := Ground.guard }], guard := some (1, false) }) (v := .pointer (some ⟨bx, 1, none⟩)) rfl (by kernel_rfl) (by kernel_rfl) (by kernel_rfl) (fun _ _ _ h => h) (Or.inl ⟨by rfl, fun w hSw => by go_simp⟩) (by assumption) ?_
          try simp only [Act.put, List.setIfInBounds_toArray, List.set_cons_zero, List.set_cons_succ]
          refine wpAnyH_take (i := 3) (oi := { dst := some 72, op := Op.load 34 (Operand.tmp 71), type := 34, pos := "law.go:187", after := #[{ on := 2, ground := Ground.data }, { on := 1, ground := Ground.guard }], guard := some (1, false) }) (v := .slice (some ⟨g7, o7, none⟩) n7 c7) rfl (by kernel_rfl) (by kernel_rfl) (by kernel_rfl) (fun _ _ _ h => h) (Or.inl ⟨by rfl, fun w hSw => by obtain ⟨b0, b1, -⟩ := row2 (brow hSw (brow HB.out HBX.out)); have hbl := (Array.getElem?_eq_some_iff.1 (brow hSw (brow HB.out HBX.out))).1; go_simp⟩) (by assumption) ?_
          try simp only [Act.put, List.setIfInBounds_toArray, List.set_cons_zero, List.set_cons_succ]
          refine wpAnyH_take (i := 4) (oi := { dst := some 73, op := Op.move (Operand.tmp 15), type := 3, pos := "law.go:187", after := #[{ on := 1, ground := Ground.guard }], guard := some (1, false) }) (v := .int .i64 (i : Int)) rfl (by kernel_rfl) (by kernel_rfl) (by kernel_rfl) (fun _ _ _ h => h) (Or.inl ⟨by rfl, fun w hSw => by go_simp⟩) (by assumption) ?_
          try simp only [Act.put, List.setIfInBounds_toArray, List.set_cons_zero, List.set_cons_succ]
          refine wpAnyH_take (i := 5) (oi := { dst := some 74, op := Op.indexAddr 34 (Operand.tmp 72) (Operand.tmp 73), type := 0, pos := "law.go:187", after := #[{ on := 3, ground := Ground.data }, { on := 4, ground := Ground.data }, { on := 1, ground := Ground.guard }], guard := some (1, false) }) (v := .pointer (some ⟨g7, o7 + i * 7, none⟩)) rfl (by kernel_rfl) (by kernel_rfl) (by kernel_rfl) (fun _ _ _ h => h) (Or.inl ⟨by rfl, fun w hSw => by go_simp⟩) (by assumption) ?_
          try simp only [Act.put, List.setIfInBounds_toArray, List.set_cons_zero, List.set_cons_succ]
          refine wpAnyH_take (i := 6) (oi := { dst := some 75, op := Op.load 32 (Operand.tmp 74), type := 32, pos := "law.go:187", after := #[{ on := 5, ground := Ground.data }, { on := 1, ground := Ground.guard }], guard := some (1, false) }) (v := .agg #[.int .u8 3, .int .u64 (tn : Int), .int .i64 (td : Int), .int .u32 (ta : Int), .int .u8 (tl : Int), .int .u16 (ts : Int), .int .u16 (tm : Int)]) rfl (by kernel_rfl) (by kernel_rfl) (by kernel_rfl) (fun _ _ _ h => h) (Or.inl ⟨by rfl, fun w hSw => by have hb := Ser.bcell (HB.out.trans (hSw.mono HB.out.size)); obtain ⟨k0, k1, k2, k3, k4, k5, k6⟩ := HPC.out; have hgl := Nat.lt_of_lt_of_le (Nat.lt_of_lt_of_le HGL.out HB.out.size) hSw.size; rw [← hb.1 _ _ HGL.out] at k0 k1 k2 k3 k4 k5 k6; go_simp⟩) (by assumption) ?_
          try simp only [Act.put, List.setIfInBounds_toArray, List.set_cons_zero, List.set_cons_succ]
          refine wpAnyH_take (i := 7) (oi := { dst := some 76, op := Op.move (Operand.tmp 2), type := 5, pos := "law.go:187", after := #[{ on := 1, ground := Ground.guard }], guard := some (1, false) }) (v := .int .u8 (p : Int)) rfl (by kernel_rfl) (by kernel_rfl) (by kernel_rfl) (fun _ _ _ h => h) (Or.inl ⟨by rfl, fun w hSw => by go_simp⟩) (by assumption) ?_
          try simp only [Act.put, List.setIfInBounds_toArray, List.set_cons_zero, List.set_cons_succ]
          refine wpAnyH_take (i := 9) (oi := { dst := some 78, op := Op.move (Operand.tmp 1), type := 22, pos := "law.go:187", after := #[{ on := 1, ground := Ground.guard }], guard := some (1, false) }) (v := .int .u16 (s : Int)) rfl (by kernel_rfl) (by kernel_rfl) (by kernel_rfl) (fun _ _ _ h => h) (Or.inl ⟨by rfl, fun w hSw => by go_simp⟩) (by assumption) ?_
          try simp only [Act.put, List.setIfInBounds_toArray, List.set_cons_zero, List.set_cons_succ]
          refine wpAnyH_take (i := 10) (oi := { dst := some 79, op := Op.binOp BinOp.add 22 (Operand.tmp 78) (Operand.const (Value.int IntKind.u16 1)) 22, type := 22, pos := "law.go:187", after := #[{ on := 9, ground := Ground.data }, { on := 1, ground := Ground.guard }], guard := some (1, false) }) (v := .int .u16 (s1 : Int)) rfl (by kernel_rfl) (by kernel_rfl) (by kernel_rfl) (fun _ _ _ h => h) (Or.inl ⟨by rfl, fun w hSw => by have hw1 := HW1.out.1; have hw2 := HW1.out.2; go_simp⟩) (by assumption) ?_
          try simp only [Act.put, List.setIfInBounds_toArray, List.set_cons_zero, List.set_cons_succ]
          refine wpAnyH_ready (rs := [8]) (by kernel_rfl) (by simp) ?_
          refine (AllReadyH.cons (o := { dst := some 77, op := Op.call { callee := Callee.value (Operand.func 19), args := #[Operand.tmp 76], argTypes := #[5] }, type := 30, pos := "law.go:187", after := #[{ on := 7, ground := Ground.data }, { on := 1, ground := Ground.chain }, { on := 1, ground := Ground.guard }], guard := some (1, false) }) rfl (fun K hK => ?_) AllReadyH.nil)
          go_simp
          with_reducible refine (CP.out _).mono ?_
          rintro en wd2 ⟨rfl, B3⟩
          refine hK.out _ _ (hHeld.trans (B3.mono hHeld.size)) (fun hHeld2 => ?_)
          clear hK K hHeld
          have hHeld := hHeld2
          clear hHeld2
          try simp only [Act.put, List.setIfInBounds_toArray, List.set_cons_zero, List.set_cons_succ]
          clear B3
          generalize wd2 = wdd at *
          refine wpAnyH_take (i := 11) (oi := { dst := some 80, op := Op.build 32 #[(0, Operand.const (Value.int IntKind.u8 4)), (3, Operand.tmp 77), (4, Operand.tmp 79), (1, Operand.const (Value.int IntKind.u64 8))], type := 32, pos := "law.go:187", after := #[{ on := 8, ground := Ground.data }, { on := 10, ground := Ground.data }, { on := 1, ground := Ground.guard }], guard := some (1, false) }) (v := .agg #[.int .u8 4, .int .u64 8, .int .i64 0, .int .u32 (pa : Int), .int .u8 (pn : Int), .int .u16 (s1 : Int), .int .u16 0]) rfl (by kernel_rfl) (by kernel_rfl) (by kernel_rfl) (fun _ _ _ h => h) (Or.inl ⟨by rfl, fun w hSw => by go_simp⟩) (by assumption) ?_
          try simp only [Act.put, List.setIfInBounds_toArray, List.set_cons_zero, List.set_cons_succ]
          refine wpAnyH_take (i := 12) (oi := { dst := some 81, op := Op.binOp BinOp.eql 32 (Operand.tmp 75) (Operand.tmp 80) 32, type := 4, pos := "law.go:187", after := #[{ on := 6, ground := Ground.data }, { on := 11, ground := Ground.data }, { on := 1, ground := Ground.guard }], guard := some (1, false) }) (v := .bool false) rfl (by kernel_rfl) (by kernel_rfl) (by kernel_rfl) (fun _ _ _ h => h) (Or.inl ⟨by rfl, fun w hSw => by go_simp⟩) (by assumption) ?_
          try simp only [Act.put, List.setIfInBounds_toArray, List.set_cons_zero, List.set_cons_succ]
          refine wpAnyH_take (i := 13) (oi := { dst := some 82, op := Op.pick (Operand.tmp 70) (Operand.const (Value.bool true)) (Operand.tmp 81), type := 4, pos := "law.go:187", after := #[{ on := 1, ground := Ground.data }, { on := 12, ground := Ground.data }], guard := none }) (v := .bool false) rfl (by kernel_rfl) (by kernel_rfl) (by kernel_rfl) (fun _ _ _ h => h) (Or.inl ⟨by rfl, fun w hSw => by go_simp⟩) (by assumption) ?_
          try simp only [Act.put, List.setIfInBounds_toArray, List.set_cons_zero, List.set_cons_succ]
          refine wpAnyH_take (i := 14) (oi := { dst := some 14, op := Op.assign (Operand.tmp 82), type := 4, pos := "law.go:187", after := #[{ on := 13, ground := Ground.data }, { on := 8, ground := Ground.chain }, { on := 0, ground := Ground.phase }, { on := 1, ground := Ground.phase }, { on := 2, ground := Ground.phase }, { on := 3, ground := Ground.phase }, { on := 4, ground := Ground.phase }, { on := 5, ground := Ground.phase }, { on := 6, ground := Ground.phase }, { on := 7, ground := Ground.phase }, { on := 8, ground := Ground.phase }, { on := 9, ground := Ground.phase }, { on := 10, ground := Ground.phase }, { on := 11, ground := Ground.phase }, { on := 12, ground := Ground.phase }, { on := 13, ground := Ground.phase }], guard := none }) (v := .bool false) rfl (by kernel_rfl) (by kernel_rfl) (by kernel_rfl) (fun _ _ _ h => h) (Or.inl ⟨by rfl, fun w hSw => by go_simp⟩) (by assumption) ?_
          try simp only [Act.put, List.setIfInBounds_toArray, List.set_cons_zero, List.set_cons_succ]
          refine wpAnyH_done (by kernel_rfl) ?_ _
          try unfold NoPanic
          have HD := Lib.hid (HB.out.trans (hHeld.mono HB.out.size))
          clear hHeld
          go_wp2
          go_roundw
          case rel => exact ⟨i + 1, by omega, by go_num, by rw [HDN.out], HD⟩
          case measure => simp [intOf]; omega
        · have hie : i = U.length := by have := HG7.out.1; omega
          have ht : (U ++ [(⟨4, 8, 0, pa, pn, s1, 0⟩ : Pt)])[i] = ⟨4, 8, 0, pa, pn, s1, 0⟩ := by
            subst hie
            exact List.getElem_concat_length rfl _
          rw [ht] at hc9
          have HDN := Lib.hid (show decide (i + 1 = n7) = true from decide_eq_true (by have := HG7.out.1; omega))
          have HPC : Hid (PR we g7 (o7 + i * 7) pa pn s1) := Lib.hid ⟨hc9 0 (by decide), hc9 1 (by decide), hc9 2 (by decide), hc9 3 (by decide), hc9 4 (by decide), hc9 5 (by decide), hc9 6 (by decide)⟩
          have HGL := Lib.hid hb9
          clear hc9 ht hb9 hu hil hie
          unfold PR at HPC
          go_upto_region 14 with (fail)
          clear q0 q1 hbl
          refine wp_region_noPanic ?_
          refine wp_region_held_drew (S := fun y9 : World => Below wr.heap.size wr y9) (by kernel_rfl) ((Below.refl _ _).drew) (fun hHeld => ?_)
          generalize wr.drew = wd at *
          refine wpAnyH_take (i := 0) (oi := { dst := some 69, op := Op.move (Operand.tmp 14), type := 4, pos := "law.go:187", after := #[], guard := none }) (v := .bool false) rfl (by kernel_rfl) (by kernel_rfl) (by kernel_rfl) (fun _ _ _ h => h) (Or.inl ⟨by rfl, fun w hSw => by go_simp⟩) (by assumption) ?_
          try simp only [Act.put, List.setIfInBounds_toArray, List.set_cons_zero, List.set_cons_succ]
          refine wpAnyH_take (i := 1) (oi := { dst := some 70, op := Op.move (Operand.tmp 69), type := 4, pos := "law.go:187", after := #[{ on := 0, ground := Ground.data }], guard := none }) (v := .bool false) rfl (by kernel_rfl) (by kernel_rfl) (by kernel_rfl) (fun _ _ _ h => h) (Or.inl ⟨by rfl, fun w hSw => by go_simp⟩) (by assumption) ?_
          try simp only [Act.put, List.setIfInBounds_toArray, List.set_cons_zero, List.set_cons_succ]
          refine wpAnyH_take (i := 2) (oi := { dst := some 71, op := Op.fieldAddr 36 (Operand.tmp 12) 1, type := 0, pos := "law.go:187", after := #[{ on := 1, ground := Ground.guard }], guard := some (1, false) }) (v := .pointer (some ⟨bx, 1, none⟩)) rfl (by kernel_rfl) (by kernel_rfl) (by kernel_rfl) (fun _ _ _ h => h) (Or.inl ⟨by rfl, fun w hSw => by go_simp⟩) (by assumption) ?_
          try simp only [Act.put, List.setIfInBounds_toArray, List.set_cons_zero, List.set_cons_succ]
          refine wpAnyH_take (i := 3) (oi := { dst := some 72, op := Op.load 34 (Operand.tmp 71), type := 34, pos := "law.go:187", after := #[{ on := 2, ground := Ground.data }, { on := 1, ground := Ground.guard }], guard := some (1, false) }) (v := .slice (some ⟨g7, o7, none⟩) n7 c7) rfl (by kernel_rfl) (by kernel_rfl) (by kernel_rfl) (fun _ _ _ h => h) (Or.inl ⟨by rfl, fun w hSw => by obtain ⟨b0, b1, -⟩ := row2 (brow hSw (brow HB.out HBX.out)); have hbl := (Array.getElem?_eq_some_iff.1 (brow hSw (brow HB.out HBX.out))).1; go_simp⟩) (by assumption) ?_
          try simp only [Act.put, List.setIfInBounds_toArray, List.set_cons_zero, List.set_cons_succ]
          refine wpAnyH_take (i := 4) (oi := { dst := some 73, op := Op.move (Operand.tmp 15), type := 3, pos := "law.go:187", after := #[{ on := 1, ground := Ground.guard }], guard := some (1, false) }) (v := .int .i64 (i : Int)) rfl (by kernel_rfl) (by kernel_rfl) (by kernel_rfl) (fun _ _ _ h => h) (Or.inl ⟨by rfl, fun w hSw => by go_simp⟩) (by assumption) ?_
          try simp only [Act.put, List.setIfInBounds_toArray, List.set_cons_zero, List.set_cons_succ]
          refine wpAnyH_take (i := 5) (oi := { dst := some 74, op := Op.indexAddr 34 (Operand.tmp 72) (Operand.tmp 73), type := 0, pos := "law.go:187", after := #[{ on := 3, ground := Ground.data }, { on := 4, ground := Ground.data }, { on := 1, ground := Ground.guard }], guard := some (1, false) }) (v := .pointer (some ⟨g7, o7 + i * 7, none⟩)) rfl (by kernel_rfl) (by kernel_rfl) (by kernel_rfl) (fun _ _ _ h => h) (Or.inl ⟨by rfl, fun w hSw => by go_simp⟩) (by assumption) ?_
          try simp only [Act.put, List.setIfInBounds_toArray, List.set_cons_zero, List.set_cons_succ]
          refine wpAnyH_take (i := 6) (oi := { dst := some 75, op := Op.load 32 (Operand.tmp 74), type := 32, pos := "law.go:187", after := #[{ on := 5, ground := Ground.data }, { on := 1, ground := Ground.guard }], guard := some (1, false) }) (v := .agg #[.int .u8 4, .int .u64 8, .int .i64 0, .int .u32 (pa : Int), .int .u8 (pn : Int), .int .u16 (s1 : Int), .int .u16 0]) rfl (by kernel_rfl) (by kernel_rfl) (by kernel_rfl) (fun _ _ _ h => h) (Or.inl ⟨by rfl, fun w hSw => by have hb := Ser.bcell (HB.out.trans (hSw.mono HB.out.size)); obtain ⟨k0, k1, k2, k3, k4, k5, k6⟩ := HPC.out; have hgl := Nat.lt_of_lt_of_le (Nat.lt_of_lt_of_le HGL.out HB.out.size) hSw.size; rw [← hb.1 _ _ HGL.out] at k0 k1 k2 k3 k4 k5 k6; go_simp⟩) (by assumption) ?_
          try simp only [Act.put, List.setIfInBounds_toArray, List.set_cons_zero, List.set_cons_succ]
          refine wpAnyH_take (i := 7) (oi := { dst := some 76, op := Op.move (Operand.tmp 2), type := 5, pos := "law.go:187", after := #[{ on := 1, ground := Ground.guard }], guard := some (1, false) }) (v := .int .u8 (p : Int)) rfl (by kernel_rfl) (by kernel_rfl) (by kernel_rfl) (fun _ _ _ h => h) (Or.inl ⟨by rfl, fun w hSw => by go_simp⟩) (by assumption) ?_
          try simp only [Act.put, List.setIfInBounds_toArray, List.set_cons_zero, List.set_cons_succ]
          refine wpAnyH_take (i := 9) (oi := { dst := some 78, op := Op.move (Operand.tmp 1), type := 22, pos := "law.go:187", after := #[{ on := 1, ground := Ground.guard }], guard := some (1, false) }) (v := .int .u16 (s : Int)) rfl (by kernel_rfl) (by kernel_rfl) (by kernel_rfl) (fun _ _ _ h => h) (Or.inl ⟨by rfl, fun w hSw => by go_simp⟩) (by assumption) ?_
          try simp only [Act.put, List.setIfInBounds_toArray, List.set_cons_zero, List.set_cons_succ]
          refine wpAnyH_take (i := 10) (oi := { dst := some 79, op := Op.binOp BinOp.add 22 (Operand.tmp 78) (Operand.const (Value.int IntKind.u16 1)) 22, type := 22, pos := "law.go:187", after := #[{ on := 9, ground := Ground.data }, { on := 1, ground := Ground.guard }], guard := some (1, false) }) (v := .int .u16 (s1 : Int)) rfl (by kernel_rfl) (by kernel_rfl) (by kernel_rfl) (fun _ _ _ h => h) (Or.inl ⟨by rfl, fun w hSw => by have hw1 := HW1.out.1; have hw2 := HW1.out.2; go_simp⟩) (by assumption) ?_
          try simp only [Act.put, List.setIfInBounds_toArray, List.set_cons_zero, List.set_cons_succ]
          refine wpAnyH_ready (rs := [8]) (by kernel_rfl) (by simp) ?_
          refine (AllReadyH.cons (o := { dst := some 77, op := Op.call { callee := Callee.value (Operand.func 19), args := #[Operand.tmp 76], argTypes := #[5] }, type := 30, pos := "law.go:187", after := #[{ on := 7, ground := Ground.data }, { on := 1, ground := Ground.chain }, { on := 1, ground := Ground.guard }], guard := some (1, false) }) rfl (fun K hK => ?_) AllReadyH.nil)
          go_simp
          with_reducible refine (CP.out _).mono ?_
          rintro en wd2 ⟨rfl, B3⟩
          refine hK.out _ _ (hHeld.trans (B3.mono hHeld.size)) (fun hHeld2 => ?_)
          clear hK K hHeld
          have hHeld := hHeld2
          clear hHeld2
          try simp only [Act.put, List.setIfInBounds_toArray, List.set_cons_zero, List.set_cons_succ]
          clear B3
          generalize wd2 = wdd at *
          refine wpAnyH_take (i := 11) (oi := { dst := some 80, op := Op.build 32 #[(0, Operand.const (Value.int IntKind.u8 4)), (3, Operand.tmp 77), (4, Operand.tmp 79), (1, Operand.const (Value.int IntKind.u64 8))], type := 32, pos := "law.go:187", after := #[{ on := 8, ground := Ground.data }, { on := 10, ground := Ground.data }, { on := 1, ground := Ground.guard }], guard := some (1, false) }) (v := .agg #[.int .u8 4, .int .u64 8, .int .i64 0, .int .u32 (pa : Int), .int .u8 (pn : Int), .int .u16 (s1 : Int), .int .u16 0]) rfl (by kernel_rfl) (by kernel_rfl) (by kernel_rfl) (fun _ _ _ h => h) (Or.inl ⟨by rfl, fun w hSw => by go_simp⟩) (by assumption) ?_
          try simp only [Act.put, List.setIfInBounds_toArray, List.set_cons_zero, List.set_cons_succ]
          refine wpAnyH_take (i := 12) (oi := { dst := some 81, op := Op.binOp BinOp.eql 32 (Operand.tmp 75) (Operand.tmp 80) 32, type := 4, pos := "law.go:187", after := #[{ on := 6, ground := Ground.data }, { on := 11, ground := Ground.data }, { on := 1, ground := Ground.guard }], guard := some (1, false) }) (v := .bool true) rfl (by kernel_rfl) (by kernel_rfl) (by kernel_rfl) (fun _ _ _ h => h) (Or.inl ⟨by rfl, fun w hSw => by go_simp⟩) (by assumption) ?_
          try simp only [Act.put, List.setIfInBounds_toArray, List.set_cons_zero, List.set_cons_succ]
          refine wpAnyH_take (i := 13) (oi := { dst := some 82, op := Op.pick (Operand.tmp 70) (Operand.const (Value.bool true)) (Operand.tmp 81), type := 4, pos := "law.go:187", after := #[{ on := 1, ground := Ground.data }, { on := 12, ground := Ground.data }], guard := none }) (v := .bool true) rfl (by kernel_rfl) (by kernel_rfl) (by kernel_rfl) (fun _ _ _ h => h) (Or.inl ⟨by rfl, fun w hSw => by go_simp⟩) (by assumption) ?_
          try simp only [Act.put, List.setIfInBounds_toArray, List.set_cons_zero, List.set_cons_succ]
          refine wpAnyH_take (i := 14) (oi := { dst := some 14, op := Op.assign (Operand.tmp 82), type := 4, pos := "law.go:187", after := #[{ on := 13, ground := Ground.data }, { on := 8, ground := Ground.chain }, { on := 0, ground := Ground.phase }, { on := 1, ground := Ground.phase }, { on := 2, ground := Ground.phase }, { on := 3, ground := Ground.phase }, { on := 4, ground := Ground.phase }, { on := 5, ground := Ground.phase }, { on := 6, ground := Ground.phase }, { on := 7, ground := Ground.phase }, { on := 8, ground := Ground.phase }, { on := 9, ground := Ground.phase }, { on := 10, ground := Ground.phase }, { on := 11, ground := Ground.phase }, { on := 12, ground := Ground.phase }, { on := 13, ground := Ground.phase }], guard := none }) (v := .bool true) rfl (by kernel_rfl) (by kernel_rfl) (by kernel_rfl) (fun _ _ _ h => h) (Or.inl ⟨by rfl, fun w hSw => by go_simp⟩) (by assumption) ?_
          try simp only [Act.put, List.setIfInBounds_toArray, List.set_cons_zero, List.set_cons_succ]
          refine wpAnyH_done (by kernel_rfl) ?_ _
          try unfold NoPanic
          have HD := Lib.hid (HB.out.trans (hHeld.mono HB.out.size))
          clear hHeld
          go_wp2
          go_roundw
          case rel => exact ⟨i + 1, by omega, by go_num, by rw [HDN.out], HD⟩
          case measure => simp [intOf]; omega
      · obtain rfl : i = n7 := by omega
        rw [decide_eq_true rfl] at hv
        subst hv
        have HLf := Lib.hid (HLe.out.step HB.out)
        clear HLe
        go_upto_region 17 with (first
          | (go_at_call 25; (with_reducible refine (own_call _).mono ?_); rintro en wg ⟨z, rfl, hS, hR, B⟩; have HLg := Lib.hid (HLf.out.step B); obtain ⟨p0, p1, -⟩ := row2 hR; have hzl := (Array.getElem?_eq_some_iff.1 hR).1; clear hS hR B HLf)
          | (go_at_call 15; (with_reducible refine (HHO.out _ _ _ _ _ HLg.out HP9.out).mono ?_); rintro en wh ⟨rfl, eh, hL, hP⟩; have HLh := Lib.hid hL; have HPh := Lib.hid hP; clear hL hP HLg HP9 HHO p0 p1 hzl)
          | (go_at_call 17; (with_reducible refine (HS3.out _ _ _ _ _ HLh.out HPh.out).mono ?_); rintro en wi ⟨vi, ei, rfl, hL, hP⟩; have HLi := Lib.hid hL; have HPi := Lib.hid hP; clear hL hP HLh HPh HS3))
        go_upto_region 18 with (first
          | (go_at_call 25; (with_reducible refine (own_call _).mono ?_); rintro en wj ⟨z, rfl, hS, hR, B⟩; have HLj := Lib.hid (HLi.out.step B); obtain ⟨p0, p1, -⟩ := row2 hR; have hzl := (Array.getElem?_eq_some_iff.1 hR).1; clear hS hR B HLi)
          | (go_at_call 18; (with_reducible refine (HRO.out _ _ _ _ _ HLj.out HPi.out).mono ?_); rintro en wk ⟨rfl, hL⟩; have HLk := Lib.hid hL; clear hL HLj HRO p0 p1 hzl))
        have HLl := Lib.hid (HLk.out.add #[.int .u32 201326592, .int .u8 24, .int .i64 0, .int .u16 0, .int .u16 (so : Int)] 40)
        clear HLk
        generalize World.alloc wk _ = wl at *
        generalize wk.heap.size = br at *
        cases hnw : newer (ak : Int) 1 with
        | true =>
          have hso2 : so = 2 := by rw [HSO.out, hnw]; rfl
          rw [hnw] at HNW
          subst hso2
          clear hnw HSO
          have hw1 := HW1.out.1
          have hw2 := HW1.out.2
          go_upto_region 24 with (first
            | (go_at_call 26; (with_reducible refine (HNW.out _).mono ?_); rintro en wm ⟨rfl, rfl⟩)
            | (go_at_call 16; (with_reducible refine (CU3.out _).mono ?_); rintro en wn ⟨rfl, hB⟩; have HLn := Lib.hid (HLl.out.step hB); clear hB HLl CU3)
            | (go_at_call 15; (with_reducible refine (HH4.out _ _ _ _ _ HLn.out HPi.out).mono ?_); rintro en wo ⟨rfl, eo, hL, hP⟩; have HLo := Lib.hid hL; have HPo := Lib.hid hP; clear hL hP HLn HPi HH4)
            | (go_at_call 17; (with_reducible refine (HS4.out _ _ _ _ _ HLo.out HPo.out).mono ?_); rintro en wp ⟨vp, ep, rfl, hL, hP⟩; have HLp := Lib.hid hL; have HPp := Lib.hid hP; clear hL hP HLo HPo HS4)
            | (go_at_call 19; (with_reducible refine (CP.out _).mono ?_); rintro en wq ⟨rfl, hB⟩; have HLq := Lib.hid (HLp.out.step hB); clear hB HLp)
            | (go_at_call 18; (with_reducible refine (HR4.out _ _ _ _ _ HLq.out HPp.out).mono ?_); rintro en wr9 ⟨rfl, hL⟩; have HLr := Lib.hid hL; clear hL HLq HR4))
          have HLs := Lib.hid (HLr.out.add #[.int .u32 (pa : Int), .int .u8 (pn : Int), .int .i64 1, .int .u16 ((x : Int) + 193), .int .u16 (s1 : Int)] 40)
          clear HLr
          generalize World.alloc wr9 _ = ws at *
          generalize wr9.heap.size = bs at *
          have HRs := Lib.hid (HLs.out.row (List.mem_cons_self ..))
          have HRr := Lib.hid (HLs.out.row (List.mem_cons_of_mem _ (List.mem_cons_self ..)))
          have HBs := Lib.hid (H1.out.trans (HLs.out.b.mono H1.out.size))
          clear HLs
          obtain ⟨a0, a1, a2, a3, a4, -⟩ := row5' HRs.out
          obtain ⟨d0, d1, d2, d3, d4, -⟩ := row5' HRr.out
          have la := (Array.getElem?_eq_some_iff.1 HRs.out).1
          have lb := (Array.getElem?_eq_some_iff.1 HRr.out).1
          go_wp2
          go_ret
          exact ⟨rfl, HBs.out⟩
        | false =>
          have hso2 : so = 1 := by rw [HSO.out, hnw]; rfl
          rw [hnw] at HNW
          subst hso2
          clear hnw HSO
          have hw1 := HW1.out.1
          have hw2 := HW1.out.2
          go_upto_region 24 with (first
            | (go_at_call 26; (with_reducible refine (HNW.out _).mono ?_); rintro en wm ⟨rfl, rfl⟩)
            | (go_at_call 16; (with_reducible refine (CU3.out _).mono ?_); rintro en wn ⟨rfl, hB⟩; have HLn := Lib.hid (HLl.out.step hB); clear hB HLl CU3)
            | (go_at_call 15; (with_reducible refine (HH4.out _ _ _ _ _ HLn.out HPi.out).mono ?_); rintro en wo ⟨rfl, eo, hL, hP⟩; have HLo := Lib.hid hL; have HPo := Lib.hid hP; clear hL hP HLn HPi HH4)
            | (go_at_call 17; (with_reducible refine (HS4.out _ _ _ _ _ HLo.out HPo.out).mono ?_); rintro en wp ⟨vp, ep, rfl, hL, hP⟩; have HLp := Lib.hid hL; have HPp := Lib.hid hP; clear hL hP HLo HPo HS4)
            | (go_at_call 19; (with_reducible refine (CP.out _).mono ?_); rintro en wq ⟨rfl, hB⟩; have HLq := Lib.hid (HLp.out.step hB); clear hB HLp)
            | (go_at_call 18; (with_reducible refine (HR4.out _ _ _ _ _ HLq.out HPp.out).mono ?_); rintro en wr9 ⟨rfl, hL⟩; have HLr := Lib.hid hL; clear hL HLq HR4))
          have HLs := Lib.hid (HLr.out.add #[.int .u32 (pa : Int), .int .u8 (pn : Int), .int .i64 1, .int .u16 ((x : Int) + 193), .int .u16 (s1 : Int)] 40)
          clear HLr
          generalize World.alloc wr9 _ = ws at *
          generalize wr9.heap.size = bs at *
          have HRs := Lib.hid (HLs.out.row (List.mem_cons_self ..))
          have HRr := Lib.hid (HLs.out.row (List.mem_cons_of_mem _ (List.mem_cons_self ..)))
          have HBs := Lib.hid (H1.out.trans (HLs.out.b.mono H1.out.size))
          clear HLs
          obtain ⟨a0, a1, a2, a3, a4, -⟩ := row5' HRs.out
          obtain ⟨d0, d1, d2, d3, d4, -⟩ := row5' HRr.out
          have la := (Array.getElem?_eq_some_iff.1 HRs.out).1
          have lb := (Array.getElem?_eq_some_iff.1 HRr.out).1
          go_wp2
          go_ret
          exact ⟨rfl, HBs.out⟩
  · have hd : decide ((60000 : Int) < (x : Int)) = true := by simp; omega
    clear b0 b1 b2 b3 hf
    go_enter Tryz.func6, Tryz.ntmps6
    go_wp2_with (first
      | (go_at_call 13; (with_reducible refine (awake_any w HT.out).mono ?_); rintro en wa ⟨rfl, hB⟩; have HA := Lib.hid (And.intro hB (Lk.tab_below HT.out hB h0)); clear hB)
      | (go_at_call 13; (with_reducible refine (awake_any wa HA.out.2).mono ?_); rintro en wb ⟨rfl, hB⟩; have HB := Lib.hid (HA.out.1.trans (hB.mono HA.out.1.size)); clear hB))
    go_ret
    exact ⟨rfl, HB.out⟩

set_option maxRecDepth 100000 in
theorem lifted (os : Os) (started : os.Started) (H : Type) (enc : TypeId × Value → H) :
    ReturnsInHanded {} Tryz.checked os 6 .any (fun w args => (Rows.engineAsksSpec.pre enc Tryz.prog Tryz.f6 Rows.engineAsksRow.domain false w args ∧ laidMet Tryz.prog Rows.engineAsksRow.laid w) ∧ sizedMet enc Tryz.prog Tryz.f6 (OpenSpec.ofChange Rows.engineAsksSpec) false w args)
      (Rows.engineAsksSpec.post enc Tryz.prog Tryz.f6 false true false false) := by
  refine returnsInHanded_of_change_and (C := Tryz.checked) (X := fun w _ => laidMet Tryz.prog Rows.engineAsksRow.laid w) (fun _ _ _ hh h => h.of_heap hh) own started (by kernel_rfl) Tryz.func6
    (ChangeSpec.witness_at (enc := enc) (C := Tryz.checked) (os := os) (X := fun w _ => laidMet Tryz.prog Rows.engineAsksRow.laid w) false (laidWorld os) #[.int .u16 0, .int .u16 0, .int .u8 0, .int .u16 0] 8 rfl (by kernel_rfl) (by kernel_rfl) (by kernel_rfl) (by kernel_rfl) (by kernel_rfl) (laid_met os _)) ?_
  intro W base args ds gs before hval0 hW hcnd _ hL _
  have hval : ∀ (j : Nat) t v, Tryz.f6.params[j]? = some t → args[j]? = some v → Value.okWide Tryz.prog W .any base t v := hval0
  have hW' := hW
  obtain ⟨p, q, hA0, hV, rfl, hfz, hnd⟩ := hW
  have hA : DataW.TrodAll enc Tryz.prog W 0 (fun _ => true) true Tryz.f6.params.toList args.toList ds p := hA0
  rw [Tryz.params6] at hA hval
  obtain ⟨v0, vs0, d0, ds0, p0, q0, hargs, rfl, rfl, h0, r0⟩ := trodAll_cons hA
  obtain ⟨v1, vs1, d1, ds1, p1, q1, rfl, rfl, rfl, h1, r1⟩ := trodAll_cons r0
  obtain ⟨v2, vs2, d2, ds2, p2, q2, rfl, rfl, rfl, h2, r2⟩ := trodAll_cons r1
  obtain ⟨v3, vs3, d3, ds3, p3, q3, rfl, rfl, rfl, h3, r3⟩ := trodAll_cons r2
  obtain ⟨rfl, rfl, rfl⟩ := trodAll_nil r3
  obtain rfl : args = #[v0, v1, v2, v3] := by cases args; simp_all
  obtain ⟨rfl, rfl⟩ := trodVars_none hV
  obtain ⟨a0, rfl, rfl, rfl, w0⟩ := open_int Tryz.underlying22 (hval 0 22 v0 rfl rfl) h0
  obtain ⟨a1, rfl, rfl, rfl, w1⟩ := open_int Tryz.underlying22 (hval 1 22 v1 rfl rfl) h1
  obtain ⟨a2, rfl, rfl, rfl, w2⟩ := open_int Tryz.underlying5 (hval 2 5 v2 rfl rfl) h2
  obtain ⟨a3, rfl, rfl, rfl, w3⟩ := open_int Tryz.underlying22 (hval 3 22 v3 rfl rfl) h3
  clear hA0 hval0
  refine (walk a0 a1 a2 a3 W w0 w1 w2 w3 (Lk.tab_of_laid hL)).mono fun e W' ⟨he, bel⟩ => ?_
  subst he
  exact ⟨_, rfl, _, _, _, [], _, [], hW', trodAll_mk1 (shut_bool Tryz.underlying4 _), (trodAll_cons_mk (shut_int Tryz.underlying22 w0) (trodAll_cons_mk (shut_int Tryz.underlying22 w1) (trodAll_cons_mk (shut_int Tryz.underlying5 w2) (trodAll_cons_mk (shut_int Tryz.underlying22 w3) trodAll_mk0)))), rfl, bel.frame _, fun h => by cases h⟩

theorem over : Rows.engineAsksRow.holds Tryz.pinned (OpenSpec.ofChange Rows.engineAsksSpec) :=
  OpenClaim.holds_of_wide 6 Tryz.f6 rfl rfl rfl rfl rfl rfl rfl ⟨rfl, rfl, rfl, rfl, rfl⟩ rfl rfl rfl rfl rfl (by kernel_rfl) Tryz.func6 (by kernel_rfl)
    (of_decide_eq_true (by kernel_rfl)) (by unfold Func.isWrapper; first | (rw [if_pos (by decide +kernel)]; kernel_rfl) | (rw [if_neg (by decide +kernel)]; exact ⟨rfl, rfl⟩))
    (fun os started H enc _ => lifted os started H enc)

theorem proved : Rows.EngineAsksCardSaid :=
  Claim7.holds_tied_plain_at .later [] [.data] true (true, "73430b27a30ada73018fe7c3192a9fa6d4b7bfc394d4113e0a57e1736d749f34") false
    over (fun _ h => by cases h) (by kernel_rfl) (fun _ h => by cases h) engineAsks_row_tie rfl ⟨rfl, rfl⟩ (by kernel_rfl) rfl
    (fun f fn hf hfn => by
      obtain rfl : f = 6 := Option.some.inj ((show Tryz.prog.funcNamed "milestone/milestonelaw17.EngineAsks" = some 6 by kernel_rfl).symm.trans hf) |>.symm
      obtain rfl : fn = Tryz.f6 := (Option.some.inj (Tryz.func6.symm.trans hfn)).symm
      exact ⟨by kernel_rfl, fun j t ht => by
        rw [Tryz.params6] at ht
        have hm : t ∈ [22, 22, 5, 22] := by simpa using Array.mem_of_getElem? ht
        have hall : ([22, 22, 5, 22].all fun u => !Tryz.prog.wantsStandIn u) = true := by kernel_rfl
        exact (show Tryz.prog.wantsStandIn t = false by simpa using List.all_eq_true.1 hall t hm)⟩)
    (by kernel_rfl)
#print axioms proved
end Go.Proofs.YtjbogjbopgcbhaaGreatDoor.Eg.engineAsks
