/-
  'For every input the Go function milestonelaw17.EngineHops returns true, and each argument reads behind the call as it read before.'
  Conditions: none but the row's own (linux/amd64, sizes of what is read within the address space).
-/
import Derived.Test.YtjbogjbopgcbhaaGreatDoorRows
import Derived.WalkKit
import Derived.ProofKit
import Derived.OpenShut
import Derived.ShutString
import Derived.ChangeOld
import Derived.Below
import Derived.Lib.SmallJoins
import Derived.Lib.Hide
import Derived.Test.YtjbogjbopgcbhaaGreatDoorZR
import Derived.Test.YtjbogjbopgcbhaaGreatDoorZLaid
import Derived.Test.YtjbogjbopgcbhaaGreatDoorCards
import Derived.Test.YtjbogjbopgcbhaaGreatDoorTie
import Derived.SevenTiedAt
import Derived.Laws.Closers25b
namespace Go.Proofs.YtjbogjbopgcbhaaGreatDoor.Eg.engineHops
open Pre
open Ser
open Rts
open Go.Proofs.YtjbogjbopgcbhaaGreatDoor.Src (row1 row2 Mk SrcAt pA pN)
open Go.Proofs.YtjbogjbopgcbhaaGreatDoor.Lk (laidWorld laid_met)
open Go.ChangeShapes Go.WideShapes Go.ChangeAt Go.RowKit
open Go.ChangeMaps (open_string shut_string)
set_option linter.unusedVariables false
set_option maxRecDepth 8000

theorem own : ownKnob Tryz.prog.godebug = none := by kernel_rfl
theorem laidOut : laidOutB Tryz.prog = true := by kernel_rfl

/-- The request that goes on. -/
def PC (w : World) (g o pa pn s k : Nat) : Prop := w.cell? ⟨g, o, none⟩ = some (.int .u8 4) ∧ w.cell? ⟨g, o + 1, none⟩ = some (.int .u64 ((k : Int) - 1)) ∧ w.cell? ⟨g, o + 2, none⟩ = some (.int .i64 0) ∧ w.cell? ⟨g, o + 3, none⟩ = some (.int .u32 (pa : Int)) ∧ w.cell? ⟨g, o + 4, none⟩ = some (.int .u8 (pn : Int)) ∧ w.cell? ⟨g, o + 5, none⟩ = some (.int .u16 (s : Int)) ∧ w.cell? ⟨g, o + 6, none⟩ = some (.int .u16 0)
set_option maxHeartbeats 16000000 in
theorem walk (a0 : Int) (a1 : Int) (a2 : Int) (w : World) (w0 : (Lit.int .u8 a0).wf = true) (w1 : (Lit.int .u16 a1).wf = true) (w2 : (Lit.int .u8 a2).wf = true) (hp : Lk.Tab w) :
    Calls Tryz.prog 12 #[.int .u8 a0, .int .u16 a1, .int .u8 a2] w fun e w' => e = .returned (.bool true) ∧ Below w.heap.size w w' := by
  have b0 := bounds_u8 w0
  have b1 := bounds_u16 w1
  have b2 := bounds_u8 w2
  obtain ⟨p, rfl⟩ := Int.eq_ofNat_of_zero_le b0.1
  obtain ⟨s, rfl⟩ := Int.eq_ofNat_of_zero_le b1.1
  obtain ⟨n, rfl⟩ := Int.eq_ofNat_of_zero_le b2.1
  clear w0 w1 w2
  have h0 := Lk.tab_size hp
  have HT := Lib.hid hp
  clear hp
  have HM : Hid (∀ W, Lk.Tab W → Calls Tryz.prog 14 #[.int .u16 96, .int .u16 96] W fun en w' => ∃ q w1, en = .returned (.pointer (some ⟨q, 0, none⟩)) ∧ Below W.heap.size W w1 ∧ LW w1 w' q (Eng.m0 96 96) []) := Lib.hid fun W h => met_any W 96 96 (by decide) (by decide) h
  obtain ⟨pa, hpa⟩ : ∃ pa, pa = pA p := ⟨_, rfl⟩
  obtain ⟨pn, hpn⟩ : ∃ pn, pn = pN p := ⟨_, rfl⟩
  have hpl : pn < 256 := by rw [hpn]; have := Src.pN_le p; omega
  have CP : Hid (∀ W, Calls Tryz.prog 19 #[.int .u8 (p : Int)] W fun e w' => e = .returned (.agg #[.int .u32 (pa : Int), .int .u8 (pn : Int)]) ∧ Below W.heap.size W w') := Lib.hid fun W => by rw [hpa, hpn]; exact Src.prefix_n p (by omega) W
  obtain ⟨k, hk⟩ : ∃ k, k = n % 65 := ⟨_, rfl⟩
  have hki : (n : Int) % 65 = (k : Int) := by omega
  have hk65 : k < 65 := by omega
  have hkw : IntKind.u64.wrap (k : Int) = (k : Int) := by rw [IntKind.wrap_u64]; omega
  have HS0 : Hid (∀ w1 W q, LW w1 W q (Eng.m0 96 96) [] → Calls Tryz.prog 17 #[.pointer (some ⟨q, 0, none⟩)] W fun en w' => ∃ v' e1, en = .returned v' ∧ LW w1 w' q e1 [] ∧ Met 96 96 e1 ∧ e1.L = [] ∧ e1.he = 0 ∧ e1.lost.length ≤ 0 ∧ look e1.ch pa pn = none ∧ e1.Ok) := Lib.hid fun w1 W q h => by
    have st := St.m0 96 96 p
    have so := st.sok (fun x hx => by cases hx) (by decide) (by decide)
    refine (select_lw h so).mono ?_
    rintro en w' ⟨v', e', ts, rfl, hS, hL, -⟩
    obtain ⟨k1, k2, -⟩ := st.sel so h.ok hS
    have hc := (hS.chose h.ok so).1.keep
    refine ⟨v', e', rfl, hL, k2.met, k2.L, by rw [hc]; rfl, k2.sz.2.1, ?_⟩
    rw [hpa, hpn, k1]
    exact ⟨selP_empty rfl, hL.ok⟩
  have HT1 : Hid (∀ w1 W q e1, LW w1 W q e1 [] → (Met 96 96 e1 ∧ e1.L = [] ∧ e1.he = 0 ∧ e1.lost.length ≤ 0 ∧ look e1.ch pa pn = none ∧ e1.Ok) → Calls Tryz.prog 24 #[.pointer (some ⟨q, 0, none⟩), .int .u64 1, .slice none 0 0] W fun en w' => ∃ v', en = .returned v' ∧ LW w1 w' q (e1.tellE 1) []) := Lib.hid fun w1 W q e1 h hp => (tell_lw h (by rw [hp.2.2.1]; decide) (Nat.le_trans hp.2.2.2.1 (by decide)) 1 none 0 0 [] rfl (by decide) (fun j hj => absurd hj (Nat.not_lt_zero j)) (Or.inl rfl)).mono fun en w' ⟨A, n, c, he, _, _, _, _, hL⟩ => ⟨_, he, hL⟩
  have hu : (rP pa pn s k).Ok := by
    rw [hpa, hpn]
    exact ⟨show 4 < 256 by decide, show k < 4611686018427387904 by omega, show 0 < 16 by decide, Src.pA_lt p, show pN p < 256 by have := Src.pN_le p; omega, Src.p_right p, show s < 65536 by omega, show 0 ≤ 65535 by decide⟩
  have HRQ : Hid (∀ w1 W q e1, LW w1 W q (e1.tellE 1) [] → (Met 96 96 e1 ∧ e1.L = [] ∧ e1.he = 0 ∧ e1.lost.length ≤ 0 ∧ look e1.ch pa pn = none ∧ e1.Ok) → Calls Tryz.prog 15 #[.pointer (some ⟨q, 0, none⟩), .agg #[.int .i64 1, .slice (some ⟨W.heap.size, 0, none⟩) 1 1], .int .i64 0, .int .u64 2] (W.alloc (.cells #[.int .u8 4, .int .u64 (k : Int), .int .i64 0, .int .u32 (pa : Int), .int .u8 (pn : Int), .int .u16 (s : Int), .int .u16 0] 32)) fun en w' => en = .returned (.tuple #[]) ∧ LW w1 w' q ((e1.tellE 1).req (rP pa pn s k)) []) := Lib.hid fun w1 W q e1 h hp => hear_rq (k := 1) (now := 2) (h.add #[.int .u8 4, .int .u64 (k : Int), .int .i64 0, .int .u32 (pa : Int), .int .u8 (pn : Int), .int .u16 (s : Int), .int .u16 0] 32) (hp.1.tell 1) (row_pt W (rP pa pn s k)) hu rfl (Or.inl rfl) (by show e1.L.length ≤ 100; rw [hp.2.1]; decide) (by decide)
  have hown : ∀ e1 : Eng, Met 96 96 e1 → (e1.tellE 1).isOwn pa pn = false := fun e1 hm => by rw [hpa, hpn]; exact (hm.tell 1).p_own p
  have hkn : ∀ e1 : Eng, e1.Ok → look e1.ch pa pn = none → (e1.tellE 1).knows pa pn s = false := fun e1 ok hl => by
    have h9 := knows_look ok pa pn s
    rw [hl] at h9
    exact h9
  clear hpa hpn b0 b1 b2 hu hk
  by_cases hk0 : k = 0
  · have hki0 : ((n : Int) % 65 == 0) = true := by simp; omega
    have HT3 : Hid (∀ w1 W q e1, LW w1 W q ((e1.tellE 1).req (rP pa pn s k)) [] → (Met 96 96 e1 ∧ e1.L = [] ∧ e1.he = 0 ∧ e1.lost.length ≤ 0 ∧ look e1.ch pa pn = none ∧ e1.Ok) → Calls Tryz.prog 24 #[.pointer (some ⟨q, 0, none⟩), .int .u64 3, .slice none 0 0] W fun en w' => ∃ A c, en = .returned (.tuple #[.agg #[.int .i64 0, .slice A 0 c], .bool false]) ∧ Below w1.heap.size w1 w') := Lib.hid fun w1 W q e1 h hp => by
      have e9 : (e1.tellE 1).req (rP pa pn s k) = e1.tellE 1 := by
        unfold Eng.req
        rw [if_neg (by rw [show (rP pa pn s k).a = pa from rfl, show (rP pa pn s k).l = pn from rfl, hown e1 hp.1]; decide), if_neg (by rw [show (rP pa pn s k).a = pa from rfl, show (rP pa pn s k).l = pn from rfl, show (rP pa pn s k).s = s from rfl, hkn e1 hp.2.2.2.2.2 hp.2.2.2.2.1]; decide)]
        exact if_pos hk0
      rw [e9] at h
      refine (tell_lw h (by show (if 1 % 2 = 0 then e1.he + 1 else e1.he) ≤ 900000; rw [hp.2.2.1]; decide) (by show (if e1.due = true ∨ 1 % 8 = 0 then [] else e1.lost).length ≤ 400; split; exact Nat.zero_le _; exact Nat.le_trans hp.2.2.2.1 (by decide)) 3 none 0 0 [] rfl (by decide) (fun j hj => absurd hj (Nat.not_lt_zero j)) (Or.inl rfl)).mono ?_
      rintro en w' ⟨A, n, c, rfl, hn, -, -, -, hL⟩
      have e8 : (e1.tellE 1).tellP 3 [] = [] := by
        unfold Eng.tellP
        rw [if_neg (by decide), if_neg (by show ¬ (false = true ∨ 3 % 8 = 0); decide)]; rfl
      rw [e8] at hn ⊢
      have hn : n = 0 := hn
      subst hn
      exact ⟨A, c, rfl, hL.b⟩
    clear hown hkn hk0
    go_enter Tryz.func12, Tryz.ntmps12
    go_wp2_with (first
      | (go_at_call 13; (with_reducible refine (awake_any w HT.out).mono ?_); rintro en wa ⟨rfl, hB⟩; have HA := Lib.hid (And.intro hB (Lk.tab_below HT.out hB h0)); clear hB)
      | (go_at_call 14; (with_reducible refine (HM.out _ HA.out.2).mono ?_); rintro en w2 ⟨q, w1, rfl, hB, hL⟩; have H1 := Lib.hid (HA.out.1.trans (hB.mono HA.out.1.size)); have HL := Lib.hid hL; clear hB hL HM)
      | (go_at_call 17; (with_reducible refine (HS0.out _ _ _ HL.out).mono ?_); rintro en w3 ⟨v3, e1, rfl, hL, hP⟩; have HL3 := Lib.hid hL; have HP3 := Lib.hid hP; clear hL hP HL HS0)
      | (go_at_call 24; (with_reducible refine (HT1.out _ _ _ _ HL3.out HP3.out).mono ?_); rintro en w4 ⟨v4, rfl, hL⟩; have HL4 := Lib.hid hL; clear hL HL3 HT1)
      | (go_at_call 19; (with_reducible refine (CP.out _).mono ?_); rintro en w5 ⟨rfl, hB⟩; have HL5 := Lib.hid (HL4.out.step hB); clear hB HL4)
      | (go_at_call 15; (with_reducible refine (HRQ.out _ _ _ _ HL5.out HP3.out).mono ?_); rintro en w6 ⟨rfl, hL⟩; have HL6 := Lib.hid hL; clear hL HL5 HRQ)
      | (go_at_call 24; (with_reducible refine (HT3.out _ _ _ _ HL6.out HP3.out).mono ?_); rintro en w7 ⟨A7, c7, rfl, hB⟩; have HB7 := Lib.hid (H1.out.trans (hB.mono H1.out.size)); clear hB))
    go_ret
    exact ⟨rfl, HB7.out.alloc HB7.out.size _⟩
  · have hki0 : ((n : Int) % 65 == 0) = false := by simp; omega
    have HT3 : Hid (∀ w1 W q e1, LW w1 W q ((e1.tellE 1).req (rP pa pn s k)) [] → (Met 96 96 e1 ∧ e1.L = [] ∧ e1.he = 0 ∧ e1.lost.length ≤ 0 ∧ look e1.ch pa pn = none ∧ e1.Ok) → Calls Tryz.prog 24 #[.pointer (some ⟨q, 0, none⟩), .int .u64 3, .slice none 0 0] W fun en w' => ∃ g7 o7 c7, en = .returned (.tuple #[.agg #[.int .i64 0, .slice (some ⟨g7, o7, none⟩) 1 c7], .bool true]) ∧ 1 ≤ c7 ∧ Below w1.heap.size w1 w' ∧ g7 < w'.heap.size ∧ PC w' g7 o7 pa pn s k) := Lib.hid fun w1 W q e1 h hp => by
      have e9 : (e1.tellE 1).req (rP pa pn s k) = { e1.tellE 1 with rq := [⟨4, k - 1, 0, pa, pn, s, 0⟩] } := by
        unfold Eng.req
        rw [if_neg (by rw [show (rP pa pn s k).a = pa from rfl, show (rP pa pn s k).l = pn from rfl, hown e1 hp.1]; decide), if_neg (by rw [show (rP pa pn s k).a = pa from rfl, show (rP pa pn s k).l = pn from rfl, show (rP pa pn s k).s = s from rfl, hkn e1 hp.2.2.2.2.2 hp.2.2.2.2.1]; decide)]
        refine (if_neg hk0).trans ?_
        unfold Eng.ask
        exact if_pos ⟨rfl, show 0 < 16 by decide⟩
      rw [e9] at h
      refine (tell_lw h (by show (if 1 % 2 = 0 then e1.he + 1 else e1.he) ≤ 900000; rw [hp.2.2.1]; decide) (by show (if e1.due = true ∨ 1 % 8 = 0 then [] else e1.lost).length ≤ 400; split; exact Nat.zero_le _; exact Nat.le_trans hp.2.2.2.1 (by decide)) 3 none 0 0 [] rfl (by decide) (fun j hj => absurd hj (Nat.not_lt_zero j)) (Or.inl rfl)).mono ?_
      rintro en w' ⟨A, n, c, rfl, hn, hs, -, hle, hL⟩
      have e8 : ({ e1.tellE 1 with rq := [⟨4, k - 1, 0, pa, pn, s, 0⟩] } : Eng).tellP 3 [] = [⟨4, k - 1, 0, pa, pn, s, 0⟩] := by
        unfold Eng.tellP
        rw [if_neg (by decide), if_neg (by show ¬ (false = true ∨ 3 % 8 = 0); decide)]; rfl
      rw [e8] at hn hs ⊢
      have hn : n = 1 := hn
      subst hn
      obtain ⟨g7, o7, rfl, hg, hc⟩ := hs 0 (Nat.lt_succ_self 0)
      have hid : ({ e1.tellE 1 with rq := [⟨4, k - 1, 0, pa, pn, s, 0⟩] } : Eng).id = 0 := hp.1.id
      have e7 : ((k - 1 : Nat) : Int) = (k : Int) - 1 := by omega
      refine ⟨g7, o7, c, ?_, hle, hL.b, hg, hc 0 (by decide), ?_, hc 2 (by decide), hc 3 (by decide), hc 4 (by decide), hc 5 (by decide), hc 6 (by decide)⟩
      · rw [if_neg (List.cons_ne_nil _ _), hid]; rfl
      · rw [← e7]; exact hc 1 (by decide)
    have HKM : Hid (IntKind.u64.wrap ((k : Int) - 1) = (k : Int) - 1) := Lib.hid (by rw [IntKind.wrap_u64]; omega)
    have HKW := Lib.hid hkw
    have HKT : Hid ((n : Int).tmod 65 = (k : Int)) := Lib.hid (by rw [Int.tmod_eq_emod_of_nonneg (by omega)]; omega)
    clear hown hkn hk0
    go_enter Tryz.func12, Tryz.ntmps12
    go_upto_region 8 with (first
      | (go_at_call 13; (with_reducible refine (awake_any w HT.out).mono ?_); rintro en wa ⟨rfl, hB⟩; have HA := Lib.hid (And.intro hB (Lk.tab_below HT.out hB h0)); clear hB)
      | (go_at_call 14; (with_reducible refine (HM.out _ HA.out.2).mono ?_); rintro en w2 ⟨q, w1, rfl, hB, hL⟩; have H1 := Lib.hid (HA.out.1.trans (hB.mono HA.out.1.size)); have HL := Lib.hid hL; clear hB hL HM)
      | (go_at_call 17; (with_reducible refine (HS0.out _ _ _ HL.out).mono ?_); rintro en w3 ⟨v3, e1, rfl, hL, hP⟩; have HL3 := Lib.hid hL; have HP3 := Lib.hid hP; clear hL hP HL HS0)
      | (go_at_call 24; (with_reducible refine (HT1.out _ _ _ _ HL3.out HP3.out).mono ?_); rintro en w4 ⟨v4, rfl, hL⟩; have HL4 := Lib.hid hL; clear hL HL3 HT1)
      | (go_at_call 19; (with_reducible refine (CP.out _).mono ?_); rintro en w5 ⟨rfl, hB⟩; have HL5 := Lib.hid (HL4.out.step hB); clear hB HL4)
      | (go_at_call 15; (with_reducible refine (HRQ.out _ _ _ _ HL5.out HP3.out).mono ?_); rintro en w6 ⟨rfl, hL⟩; have HL6 := Lib.hid hL; clear hL HL5 HRQ)
      | (go_at_call 24; (with_reducible refine (HT3.out _ _ _ _ HL6.out HP3.out).mono ?_); rintro en w7 ⟨g7, o7, c7, rfl, hc7, hB, hg, hpc⟩; have HT7 := Lib.hid (And.intro hc7 (And.intro (H1.out.trans (hB.mono H1.out.size)) (And.intro hg hpc))); clear hB hc7 hg hpc))
    have BX := (Below.refl w7.heap.size w7).alloc (Nat.le_refl _) (.cells #[.int .i64 0, .slice (some ⟨g7, o7, none⟩) 1 c7] 36)
    have HBX := Lib.hid (heap_alloc_new w7 (.cells #[.int .i64 0, .slice (some ⟨g7, o7, none⟩) 1 c7] 36))
    have HB9 := Lib.hid (HT7.out.2.1.trans (BX.mono HT7.out.2.1.size))
    have HGL := Lib.hid (Nat.lt_of_lt_of_le HT7.out.2.2.1 BX.size)
    have HPC : Hid (PC (w7.alloc (.cells #[.int .i64 0, .slice (some ⟨g7, o7, none⟩) 1 c7] 36)) g7 o7 pa pn s k) := Lib.hid (by
      have hb := Ser.bcell BX
      obtain ⟨k0, k1, k2, k3, k4, k5, k6⟩ := HT7.out.2.2.2
      exact ⟨(hb.1 _ _ HT7.out.2.2.1).trans k0, (hb.1 _ _ HT7.out.2.2.1).trans k1, (hb.1 _ _ HT7.out.2.2.1).trans k2, (hb.1 _ _ HT7.out.2.2.1).trans k3, (hb.1 _ _ HT7.out.2.2.1).trans k4, (hb.1 _ _ HT7.out.2.2.1).trans k5, (hb.1 _ _ HT7.out.2.2.1).trans k6⟩)
    have hc7 := HT7.out.1
    clear BX HT7
    generalize w7.alloc _ = wx at *
    generalize w7.heap.size = bx at *
    unfold PC at HPC
    go_upto_region 10 with (fail)
    refine wp_region_noPanic ?_
    refine wp_region_held_drew (S := fun y9 : World => Below wx.heap.size wx y9) (by kernel_rfl) ((Below.refl _ _).drew) (fun hHeld => ?_)
    generalize wx.drew = wd at *
    refine wpAnyH_take (i := 0) (oi := { dst := some 44, op := Op.move (Operand.tmp 9), type := 4, pos := "more.go:58", after := #[], guard := none }) (v := .bool true) rfl (by kernel_rfl) (by kernel_rfl) (by kernel_rfl) (fun _ _ _ h => h) (Or.inl ⟨by rfl, fun w hSw => by go_simp⟩) (by assumption) ?_
    try simp only [Act.put, List.setIfInBounds_toArray, List.set_cons_zero, List.set_cons_succ]
    refine wpAnyH_take (i := 1) (oi := { dst := some 45, op := Op.move (Operand.tmp 44), type := 4, pos := "more.go:58", after := #[{ on := 0, ground := Ground.data }], guard := none }) (v := .bool true) rfl (by kernel_rfl) (by kernel_rfl) (by kernel_rfl) (fun _ _ _ h => h) (Or.inl ⟨by rfl, fun w hSw => by go_simp⟩) (by assumption) ?_
    try simp only [Act.put, List.setIfInBounds_toArray, List.set_cons_zero, List.set_cons_succ]
    refine wpAnyH_take (i := 2) (oi := { dst := some 46, op := Op.fieldAddr 36 (Operand.tmp 8) 1, type := 0, pos := "more.go:58", after := #[{ on := 1, ground := Ground.guard }], guard := some (1, true) }) (v := .pointer (some ⟨bx, 1, none⟩)) rfl (by kernel_rfl) (by kernel_rfl) (by kernel_rfl) (fun _ _ _ h => h) (Or.inl ⟨by rfl, fun w hSw => by go_simp⟩) (by assumption) ?_
    try simp only [Act.put, List.setIfInBounds_toArray, List.set_cons_zero, List.set_cons_succ]
    refine wpAnyH_take (i := 3) (oi := { dst := some 47, op := Op.load 34 (Operand.tmp 46), type := 34, pos := "more.go:58", after := #[{ on := 2, ground := Ground.data }, { on := 1, ground := Ground.guard }], guard := some (1, true) }) (v := .slice (some ⟨g7, o7, none⟩) 1 c7) rfl (by kernel_rfl) (by kernel_rfl) (by kernel_rfl) (fun _ _ _ h => h) (Or.inl ⟨by rfl, fun w hSw => by obtain ⟨b0, b1, -⟩ := row2 (brow hSw HBX.out); have hbl := (Array.getElem?_eq_some_iff.1 (brow hSw HBX.out)).1; go_simp⟩) (by assumption) ?_
    try simp only [Act.put, List.setIfInBounds_toArray, List.set_cons_zero, List.set_cons_succ]
    refine wpAnyH_take (i := 4) (oi := { dst := some 48, op := Op.call { callee := Callee.builtin Builtin.len, args := #[Operand.tmp 47], argTypes := #[34] }, type := 3, pos := "more.go:58", after := #[{ on := 3, ground := Ground.data }, { on := 1, ground := Ground.guard }], guard := some (1, true) }) (v := .int .i64 (1 : Nat)) rfl (by kernel_rfl) (by kernel_rfl) (by kernel_rfl) (fun _ _ _ h => h) (Or.inl ⟨by rfl, fun w hSw => by go_simp⟩) (by assumption) ?_
    try simp only [Act.put, List.setIfInBounds_toArray, List.set_cons_zero, List.set_cons_succ]
    refine wpAnyH_take (i := 5) (oi := { dst := some 49, op := Op.binOp BinOp.eql 3 (Operand.tmp 48) (Operand.const (Value.int IntKind.i64 1)) 3, type := 4, pos := "more.go:58", after := #[{ on := 4, ground := Ground.data }, { on := 1, ground := Ground.guard }], guard := some (1, true) }) (v := .bool true) rfl (by kernel_rfl) (by kernel_rfl) (by kernel_rfl) (fun _ _ _ h => h) (Or.inl ⟨by rfl, fun w hSw => by go_simp⟩) (by assumption) ?_
    try simp only [Act.put, List.setIfInBounds_toArray, List.set_cons_zero, List.set_cons_succ]
    refine wpAnyH_take (i := 6) (oi := { dst := some 50, op := Op.pick (Operand.tmp 45) (Operand.tmp 49) (Operand.const (Value.bool false)), type := 4, pos := "more.go:58", after := #[{ on := 1, ground := Ground.data }, { on := 5, ground := Ground.data }], guard := none }) (v := .bool true) rfl (by kernel_rfl) (by kernel_rfl) (by kernel_rfl) (fun _ _ _ h => h) (Or.inl ⟨by rfl, fun w hSw => by go_simp⟩) (by assumption) ?_
    try simp only [Act.put, List.setIfInBounds_toArray, List.set_cons_zero, List.set_cons_succ]
    refine wpAnyH_take (i := 7) (oi := { dst := some 51, op := Op.move (Operand.tmp 50), type := 4, pos := "more.go:58", after := #[{ on := 6, ground := Ground.data }, { on := 1, ground := Ground.chain }], guard := none }) (v := .bool true) rfl (by kernel_rfl) (by kernel_rfl) (by kernel_rfl) (fun _ _ _ h => h) (Or.inl ⟨by rfl, fun w hSw => by go_simp⟩) (by assumption) ?_
    try simp only [Act.put, List.setIfInBounds_toArray, List.set_cons_zero, List.set_cons_succ]
    refine wpAnyH_take (i := 8) (oi := { dst := some 52, op := Op.fieldAddr 36 (Operand.tmp 8) 1, type := 0, pos := "more.go:58", after := #[{ on := 7, ground := Ground.guard }], guard := some (7, true) }) (v := .pointer (some ⟨bx, 1, none⟩)) rfl (by kernel_rfl) (by kernel_rfl) (by kernel_rfl) (fun _ _ _ h => h) (Or.inl ⟨by rfl, fun w hSw => by go_simp⟩) (by assumption) ?_
    try simp only [Act.put, List.setIfInBounds_toArray, List.set_cons_zero, List.set_cons_succ]
    refine wpAnyH_take (i := 9) (oi := { dst := some 53, op := Op.load 34 (Operand.tmp 52), type := 34, pos := "more.go:58", after := #[{ on := 8, ground := Ground.data }, { on := 7, ground := Ground.guard }], guard := some (7, true) }) (v := .slice (some ⟨g7, o7, none⟩) 1 c7) rfl (by kernel_rfl) (by kernel_rfl) (by kernel_rfl) (fun _ _ _ h => h) (Or.inl ⟨by rfl, fun w hSw => by obtain ⟨b0, b1, -⟩ := row2 (brow hSw HBX.out); have hbl := (Array.getElem?_eq_some_iff.1 (brow hSw HBX.out)).1; go_simp⟩) (by assumption) ?_
    try simp only [Act.put, List.setIfInBounds_toArray, List.set_cons_zero, List.set_cons_succ]
    refine wpAnyH_take (i := 10) (oi := { dst := some 54, op := Op.indexAddr 34 (Operand.tmp 53) (Operand.const (Value.int IntKind.i64 0)), type := 0, pos := "more.go:58", after := #[{ on := 9, ground := Ground.data }, { on := 7, ground := Ground.guard }], guard := some (7, true) }) (v := .pointer (some ⟨g7, o7, none⟩)) rfl (by kernel_rfl) (by kernel_rfl) (by kernel_rfl) (fun _ _ _ h => h) (Or.inl ⟨by rfl, fun w hSw => by go_simp⟩) (by assumption) ?_
    try simp only [Act.put, List.setIfInBounds_toArray, List.set_cons_zero, List.set_cons_succ]
    refine wpAnyH_take (i := 11) (oi := { dst := some 55, op := Op.load 32 (Operand.tmp 54), type := 32, pos := "more.go:58", after := #[{ on := 10, ground := Ground.data }, { on := 7, ground := Ground.guard }], guard := some (7, true) }) (v := .agg #[.int .u8 4, .int .u64 ((k : Int) - 1), .int .i64 0, .int .u32 (pa : Int), .int .u8 (pn : Int), .int .u16 (s : Int), .int .u16 0]) rfl (by kernel_rfl) (by kernel_rfl) (by kernel_rfl) (fun _ _ _ h => h) (Or.inl ⟨by rfl, fun w hSw => by have hb := Ser.bcell hSw; obtain ⟨k0, k1, k2, k3, k4, k5, k6⟩ := HPC.out; have hgl := Nat.lt_of_lt_of_le HGL.out hSw.size; rw [← hb.1 _ _ HGL.out] at k0 k1 k2 k3 k4 k5 k6; go_simp⟩) (by assumption) ?_
    try simp only [Act.put, List.setIfInBounds_toArray, List.set_cons_zero, List.set_cons_succ]
    refine wpAnyH_take (i := 12) (oi := { dst := some 56, op := Op.move (Operand.tmp 0), type := 5, pos := "more.go:58", after := #[{ on := 7, ground := Ground.guard }], guard := some (7, true) }) (v := .int .u8 (p : Int)) rfl (by kernel_rfl) (by kernel_rfl) (by kernel_rfl) (fun _ _ _ h => h) (Or.inl ⟨by rfl, fun w hSw => by go_simp⟩) (by assumption) ?_
    try simp only [Act.put, List.setIfInBounds_toArray, List.set_cons_zero, List.set_cons_succ]
    refine wpAnyH_take (i := 14) (oi := { dst := some 58, op := Op.move (Operand.tmp 1), type := 22, pos := "more.go:58", after := #[{ on := 7, ground := Ground.guard }], guard := some (7, true) }) (v := .int .u16 (s : Int)) rfl (by kernel_rfl) (by kernel_rfl) (by kernel_rfl) (fun _ _ _ h => h) (Or.inl ⟨by rfl, fun w hSw => by go_simp⟩) (by assumption) ?_
    try simp only [Act.put, List.setIfInBounds_toArray, List.set_cons_zero, List.set_cons_succ]
    refine wpAnyH_take (i := 15) (oi := { dst := some 59, op := Op.move (Operand.tmp 2), type := 5, pos := "more.go:58", after := #[{ on := 7, ground := Ground.guard }], guard := some (7, true) }) (v := .int .u8 (n : Int)) rfl (by kernel_rfl) (by kernel_rfl) (by kernel_rfl) (fun _ _ _ h => h) (Or.inl ⟨by rfl, fun w hSw => by go_simp⟩) (by assumption) ?_
    try simp only [Act.put, List.setIfInBounds_toArray, List.set_cons_zero, List.set_cons_succ]
    refine wpAnyH_take (i := 16) (oi := { dst := some 60, op := Op.binOp BinOp.rem 5 (Operand.tmp 59) (Operand.const (Value.int IntKind.u8 65)) 5, type := 5, pos := "more.go:58", after := #[{ on := 15, ground := Ground.data }, { on := 7, ground := Ground.guard }], guard := some (7, true) }) (v := .int .u8 (k : Int)) rfl (by kernel_rfl) (by kernel_rfl) (by kernel_rfl) (fun _ _ _ h => h) (Or.inl ⟨by rfl, fun w hSw => by have hk6 := HKT.out; go_simp⟩) (by assumption) ?_
    try simp only [Act.put, List.setIfInBounds_toArray, List.set_cons_zero, List.set_cons_succ]
    refine wpAnyH_take (i := 17) (oi := { dst := some 61, op := Op.convert 5 27 (Operand.tmp 60), type := 27, pos := "more.go:58", after := #[{ on := 16, ground := Ground.data }, { on := 7, ground := Ground.guard }], guard := some (7, true) }) (v := .int .u64 (k : Int)) rfl (by kernel_rfl) (by kernel_rfl) (by kernel_rfl) (fun _ _ _ h => h) (Or.inl ⟨by rfl, fun w hSw => by have hkw := HKW.out; go_simp⟩) (by assumption) ?_
    try simp only [Act.put, List.setIfInBounds_toArray, List.set_cons_zero, List.set_cons_succ]
    refine wpAnyH_take (i := 18) (oi := { dst := some 62, op := Op.binOp BinOp.sub 27 (Operand.tmp 61) (Operand.const (Value.int IntKind.u64 1)) 27, type := 27, pos := "more.go:58", after := #[{ on := 17, ground := Ground.data }, { on := 7, ground := Ground.guard }], guard := some (7, true) }) (v := .int .u64 ((k : Int) - 1)) rfl (by kernel_rfl) (by kernel_rfl) (by kernel_rfl) (fun _ _ _ h => h) (Or.inl ⟨by rfl, fun w hSw => by have hkm := HKM.out; go_simp⟩) (by assumption) ?_
    try simp only [Act.put, List.setIfInBounds_toArray, List.set_cons_zero, List.set_cons_succ]
    refine wpAnyH_ready (rs := [13]) (by kernel_rfl) (by simp) ?_
    refine (AllReadyH.cons (o := { dst := some 57, op := Op.call { callee := Callee.value (Operand.func 19), args := #[Operand.tmp 56], argTypes := #[5] }, type := 30, pos := "more.go:58", after := #[{ on := 12, ground := Ground.data }, { on := 7, ground := Ground.chain }, { on := 7, ground := Ground.guard }], guard := some (7, true) }) rfl (fun K hK => ?_) AllReadyH.nil)
    go_simp
    with_reducible refine (CP.out _).mono ?_
    rintro en wd2 ⟨rfl, B3⟩
    refine hK.out _ _ (hHeld.trans (B3.mono hHeld.size)) (fun hHeld2 => ?_)
    clear hK K hHeld
    have hHeld := hHeld2
    clear hHeld2
    try simp only [Act.put, List.setIfInBounds_toArray, List.set_cons_zero, List.set_cons_succ]
    clear B3
    generalize wd2 = wd at *
    refine wpAnyH_take (i := 19) (oi := { dst := some 63, op := Op.build 32 #[(0, Operand.const (Value.int IntKind.u8 4)), (3, Operand.tmp 57), (4, Operand.tmp 58), (1, Operand.tmp 62)], type := 32, pos := "more.go:58", after := #[{ on := 13, ground := Ground.data }, { on := 14, ground := Ground.data }, { on := 18, ground := Ground.data }, { on := 7, ground := Ground.guard }], guard := some (7, true) }) (v := .agg #[.int .u8 4, .int .u64 ((k : Int) - 1), .int .i64 0, .int .u32 (pa : Int), .int .u8 (pn : Int), .int .u16 (s : Int), .int .u16 0]) rfl (by kernel_rfl) (by kernel_rfl) (by kernel_rfl) (fun _ _ _ h => h) (Or.inl ⟨by rfl, fun w hSw => by go_simp⟩) (by assumption) ?_
    try simp only [Act.put, List.setIfInBounds_toArray, List.set_cons_zero, List.set_cons_succ]
    refine wpAnyH_take (i := 20) (oi := { dst := some 64, op := Op.binOp BinOp.eql 32 (Operand.tmp 55) (Operand.tmp 63) 32, type := 4, pos := "more.go:58", after := #[{ on := 11, ground := Ground.data }, { on := 19, ground := Ground.data }, { on := 7, ground := Ground.guard }], guard := some (7, true) }) (v := .bool true) rfl (by kernel_rfl) (by kernel_rfl) (by kernel_rfl) (fun _ _ _ h => h) (Or.inl ⟨by rfl, fun w hSw => by go_simp⟩) (by assumption) ?_
    try simp only [Act.put, List.setIfInBounds_toArray, List.set_cons_zero, List.set_cons_succ]
    refine wpAnyH_take (i := 21) (oi := { dst := some 65, op := Op.pick (Operand.tmp 51) (Operand.tmp 64) (Operand.const (Value.bool false)), type := 4, pos := "more.go:58", after := #[{ on := 7, ground := Ground.data }, { on := 20, ground := Ground.data }], guard := none }) (v := .bool true) rfl (by kernel_rfl) (by kernel_rfl) (by kernel_rfl) (fun _ _ _ h => h) (Or.inl ⟨by rfl, fun w hSw => by go_simp⟩) (by assumption) ?_
    try simp only [Act.put, List.setIfInBounds_toArray, List.set_cons_zero, List.set_cons_succ]
    refine wpAnyH_take (i := 22) (oi := { dst := some 66, op := Op.move (Operand.tmp 65), type := 4, pos := "more.go:58", after := #[{ on := 21, ground := Ground.data }, { on := 13, ground := Ground.chain }], guard := none }) (v := .bool true) rfl (by kernel_rfl) (by kernel_rfl) (by kernel_rfl) (fun _ _ _ h => h) (Or.inl ⟨by rfl, fun w hSw => by go_simp⟩) (by assumption) ?_
    try simp only [Act.put, List.setIfInBounds_toArray, List.set_cons_zero, List.set_cons_succ]
    refine wpAnyH_take (i := 23) (oi := { dst := some 67, op := Op.pick (Operand.tmp 66) (Operand.const (Value.bool true)) (Operand.const (Value.bool false)), type := 4, pos := "more.go:58", after := #[{ on := 22, ground := Ground.data }], guard := none }) (v := .bool true) rfl (by kernel_rfl) (by kernel_rfl) (by kernel_rfl) (fun _ _ _ h => h) (Or.inl ⟨by rfl, fun w hSw => by go_simp⟩) (by assumption) ?_
    try simp only [Act.put, List.setIfInBounds_toArray, List.set_cons_zero, List.set_cons_succ]
    refine wpAnyH_take (i := 24) (oi := { dst := some 6, op := Op.assign (Operand.tmp 67), type := 4, pos := "more.go:58", after := #[{ on := 23, ground := Ground.data }, { on := 22, ground := Ground.chain }, { on := 0, ground := Ground.phase }, { on := 1, ground := Ground.phase }, { on := 2, ground := Ground.phase }, { on := 3, ground := Ground.phase }, { on := 4, ground := Ground.phase }, { on := 5, ground := Ground.phase }, { on := 6, ground := Ground.phase }, { on := 7, ground := Ground.phase }, { on := 8, ground := Ground.phase }, { on := 9, ground := Ground.phase }, { on := 10, ground := Ground.phase }, { on := 11, ground := Ground.phase }, { on := 12, ground := Ground.phase }, { on := 13, ground := Ground.phase }, { on := 14, ground := Ground.phase }, { on := 15, ground := Ground.phase }, { on := 16, ground := Ground.phase }, { on := 17, ground := Ground.phase }, { on := 18, ground := Ground.phase }, { on := 19, ground := Ground.phase }, { on := 20, ground := Ground.phase }, { on := 21, ground := Ground.phase }, { on := 22, ground := Ground.phase }, { on := 23, ground := Ground.phase }], guard := none }) (v := .bool true) rfl (by kernel_rfl) (by kernel_rfl) (by kernel_rfl) (fun _ _ _ h => h) (Or.inl ⟨by rfl, fun w hSw => by go_simp⟩) (by assumption) ?_
    try simp only [Act.put, List.setIfInBounds_toArray, List.set_cons_zero, List.set_cons_succ]
    refine wpAnyH_done (by kernel_rfl) ?_ _
    try unfold NoPanic
    have HD := Lib.hid hHeld
    clear hHeld
    go_wp2
    go_ret
    exact ⟨rfl, HB9.out.trans (HD.out.mono HB9.out.size)⟩

set_option maxRecDepth 100000 in
theorem lifted (os : Os) (started : os.Started) (H : Type) (enc : TypeId × Value → H) :
    ReturnsInHanded {} Tryz.checked os 12 .any (fun w args => (Rows.engineHopsSpec.pre enc Tryz.prog Tryz.f12 Rows.engineHopsRow.domain false w args ∧ laidMet Tryz.prog Rows.engineHopsRow.laid w) ∧ sizedMet enc Tryz.prog Tryz.f12 (OpenSpec.ofChange Rows.engineHopsSpec) false w args)
      (Rows.engineHopsSpec.post enc Tryz.prog Tryz.f12 false true false false) := by
  refine returnsInHanded_of_change_and (C := Tryz.checked) (X := fun w _ => laidMet Tryz.prog Rows.engineHopsRow.laid w) (fun _ _ _ hh h => h.of_heap hh) own started (by kernel_rfl) Tryz.func12
    (ChangeSpec.witness_at (enc := enc) (C := Tryz.checked) (os := os) (X := fun w _ => laidMet Tryz.prog Rows.engineHopsRow.laid w) false (laidWorld os) #[.int .u8 0, .int .u16 0, .int .u8 0] 8 rfl (by kernel_rfl) (by kernel_rfl) (by kernel_rfl) (by kernel_rfl) (by kernel_rfl) (laid_met os _)) ?_
  intro W base args ds gs before hval0 hW hcnd _ hL _
  have hval : ∀ (j : Nat) t v, Tryz.f12.params[j]? = some t → args[j]? = some v → Value.okWide Tryz.prog W .any base t v := hval0
  have hW' := hW
  obtain ⟨p, q, hA0, hV, rfl, hfz, hnd⟩ := hW
  have hA : DataW.TrodAll enc Tryz.prog W 0 (fun _ => true) true Tryz.f12.params.toList args.toList ds p := hA0
  rw [Tryz.params12] at hA hval
  obtain ⟨v0, vs0, d0, ds0, p0, q0, hargs, rfl, rfl, h0, r0⟩ := trodAll_cons hA
  obtain ⟨v1, vs1, d1, ds1, p1, q1, rfl, rfl, rfl, h1, r1⟩ := trodAll_cons r0
  obtain ⟨v2, vs2, d2, ds2, p2, q2, rfl, rfl, rfl, h2, r2⟩ := trodAll_cons r1
  obtain ⟨rfl, rfl, rfl⟩ := trodAll_nil r2
  obtain rfl : args = #[v0, v1, v2] := by cases args; simp_all
  obtain ⟨rfl, rfl⟩ := trodVars_none hV
  obtain ⟨a0, rfl, rfl, rfl, w0⟩ := open_int Tryz.underlying5 (hval 0 5 v0 rfl rfl) h0
  obtain ⟨a1, rfl, rfl, rfl, w1⟩ := open_int Tryz.underlying22 (hval 1 22 v1 rfl rfl) h1
  obtain ⟨a2, rfl, rfl, rfl, w2⟩ := open_int Tryz.underlying5 (hval 2 5 v2 rfl rfl) h2
  clear hA0 hval0
  refine (walk a0 a1 a2 W w0 w1 w2 (Lk.tab_of_laid hL)).mono fun e W' ⟨he, bel⟩ => ?_
  subst he
  exact ⟨_, rfl, _, _, _, [], _, [], hW', trodAll_mk1 (shut_bool Tryz.underlying4 _), (trodAll_cons_mk (shut_int Tryz.underlying5 w0) (trodAll_cons_mk (shut_int Tryz.underlying22 w1) (trodAll_cons_mk (shut_int Tryz.underlying5 w2) trodAll_mk0))), rfl, bel.frame _, fun h => by cases h⟩

theorem over : Rows.engineHopsRow.holds Tryz.pinned (OpenSpec.ofChange Rows.engineHopsSpec) :=
  OpenClaim.holds_of_wide 12 Tryz.f12 rfl rfl rfl rfl rfl rfl rfl ⟨rfl, rfl, rfl, rfl, rfl⟩ rfl rfl rfl rfl rfl (by kernel_rfl) Tryz.func12 (by kernel_rfl)
    (of_decide_eq_true (by kernel_rfl)) (by unfold Func.isWrapper; first | (rw [if_pos (by decide +kernel)]; kernel_rfl) | (rw [if_neg (by decide +kernel)]; exact ⟨rfl, rfl⟩))
    (fun os started H enc _ => lifted os started H enc)

theorem proved : Rows.EngineHopsCardSaid :=
  Claim7.holds_tied_plain_at .later [] [.data] true (true, "73430b27a30ada73018fe7c3192a9fa6d4b7bfc394d4113e0a57e1736d749f34") false
    over (fun _ h => by cases h) (by kernel_rfl) (fun _ h => by cases h) engineHops_row_tie rfl ⟨rfl, rfl⟩ (by kernel_rfl) rfl
    (fun f fn hf hfn => by
      obtain rfl : f = 12 := Option.some.inj ((show Tryz.prog.funcNamed "milestone/milestonelaw17.EngineHops" = some 12 by kernel_rfl).symm.trans hf) |>.symm
      obtain rfl : fn = Tryz.f12 := (Option.some.inj (Tryz.func12.symm.trans hfn)).symm
      exact ⟨by kernel_rfl, fun j t ht => by
        rw [Tryz.params12] at ht
        have hm : t ∈ [5, 22, 5] := by simpa using Array.mem_of_getElem? ht
        have hall : ([5, 22, 5].all fun u => !Tryz.prog.wantsStandIn u) = true := by kernel_rfl
        exact (show Tryz.prog.wantsStandIn t = false by simpa using List.all_eq_true.1 hall t hm)⟩)
    (by kernel_rfl)
#print axioms proved
end Go.Proofs.YtjbogjbopgcbhaaGreatDoor.Eg.engineHops
