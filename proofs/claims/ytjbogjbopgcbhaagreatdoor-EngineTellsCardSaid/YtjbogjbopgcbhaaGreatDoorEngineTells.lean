/-
  'For every input the Go function milestonelaw17.EngineTells returns true, and each argument reads behind the call as it read before.'
  Conditions: none but the row's own (linux/amd64, sizes of what is read within the address space).
-/
import Derived.Test.YtjbogjbopgcbhaaGreatDoorRows
import Derived.WalkKit
import Derived.ProofKit
import Derived.OpenShut
import Derived.ShutString
import Derived.ChangeOld
import Derived.Below
import Derived.Lib.SmallJoins
import Derived.Lib.Hide
import Derived.Test.YtjbogjbopgcbhaaGreatDoorYT
import Derived.Test.YtjbogjbopgcbhaaGreatDoorYLaid
import Derived.Test.YtjbogjbopgcbhaaGreatDoorCards
import Derived.Test.YtjbogjbopgcbhaaGreatDoorTie
import Derived.SevenTiedAt
import Derived.Laws.Closers25b
namespace Go.Proofs.YtjbogjbopgcbhaaGreatDoor.Eg.engineTells
open Pre
open Ser
open Rts
open Go.Proofs.YtjbogjbopgcbhaaGreatDoor.Src (row1 row2 Mk SrcAt pA pN)
open Go.Proofs.YtjbogjbopgcbhaaGreatDoor.Lk (laidWorld laid_met)
open Go.ChangeShapes Go.WideShapes Go.ChangeAt Go.RowKit
open Go.ChangeMaps (open_string shut_string)
set_option linter.unusedVariables false
set_option maxRecDepth 8000
theorem own : ownKnob Tryz.prog.godebug = none := by kernel_rfl
theorem laidOut : laidOutB Tryz.prog = true := by kernel_rfl
def PX (w : World) (g o : Nat) (ta tl ts tm : Int) : Prop := w.cell? ⟨g, o, none⟩ = some (.int .u8 3) ∧ w.cell? ⟨g, o + 1, none⟩ = some (.int .u64 0) ∧ w.cell? ⟨g, o + 2, none⟩ = some (.int .i64 0) ∧ w.cell? ⟨g, o + 3, none⟩ = some (.int .u32 ta) ∧ w.cell? ⟨g, o + 4, none⟩ = some (.int .u8 tl) ∧ w.cell? ⟨g, o + 5, none⟩ = some (.int .u16 ts) ∧ w.cell? ⟨g, o + 6, none⟩ = some (.int .u16 tm)
set_option maxHeartbeats 64000000 in
theorem walk (a0 : Int) (a1 : Int) (a2 : Int) (a3 : Bool) (a4 : Bool) (a5 : Int) (w : World) (w0 : (Lit.int .u16 a0).wf = true) (w1 : (Lit.int .u16 a1).wf = true) (w2 : (Lit.int .u8 a2).wf = true) (w5 : (Lit.int .u8 a5).wf = true) (hp : Lk.Tab w) :
    Calls Tryz.prog 5 #[.int .u16 a0, .int .u16 a1, .int .u8 a2, .bool a3, .bool a4, .int .u8 a5] w fun e w' => e = .returned (.bool true) ∧ Below w.heap.size w w' := by
  have b0 := bounds_u16 w0
  have b1 := bounds_u16 w1
  have b2 := bounds_u8 w2
  have b5 := bounds_u8 w5
  obtain ⟨x, rfl⟩ := Int.eq_ofNat_of_zero_le b0.1
  obtain ⟨s, rfl⟩ := Int.eq_ofNat_of_zero_le b1.1
  obtain ⟨p, rfl⟩ := Int.eq_ofNat_of_zero_le b2.1
  obtain ⟨now, rfl⟩ := Int.eq_ofNat_of_zero_le b5.1
  clear w0 w1 w2 w5
  have h0 := Lk.tab_size hp
  have HT := Lib.hid hp
  clear hp
  by_cases hf : x ≤ 60000
  · have hd : decide ((60000 : Int) < (x : Int)) = false := by simp; omega
    have h96 : x + 96 < 65535 := by omega
    obtain ⟨pa, hpa⟩ : ∃ pa, pa = pA p := ⟨_, rfl⟩
    obtain ⟨pn, hpn⟩ : ∃ pn, pn = pN p := ⟨_, rfl⟩
    have hpl : pn < 256 := by rw [hpn]; have := Src.pN_le p; omega
    have hpo : pa < 201326592 := by
      rw [hpa]
      have h2 : pA p ≤ 167772160 + p % 3 * 65536 + p / 3 % 2 * 32768 := Pre.top_le _ _
      omega
    have e1 : (Eg.one (pA p) (pN p) 1 s x 2).length = 1 := by rw [one_eq (by omega)]; rfl
    have CP : Hid (∀ W, Calls Tryz.prog 19 #[.int .u8 (p : Int)] W fun e w' => e = .returned (.agg #[.int .u32 (pa : Int), .int .u8 (pn : Int)]) ∧ Below W.heap.size W w') := Lib.hid fun W => by rw [hpa, hpn]; exact Src.prefix_n p (by omega) W
    have HM : Hid (∀ W, Lk.Tab W → Calls Tryz.prog 14 #[.int .u16 96, .int .u16 96] W fun en w' => ∃ q w1, en = .returned (.pointer (some ⟨q, 0, none⟩)) ∧ Below W.heap.size W w1 ∧ LW w1 w' q (Eng.m0 96 96) []) := Lib.hid fun W h => met_any W 96 96 (by decide) (by decide) h
    have CU1 : Hid (∀ W, Calls Tryz.prog 16 #[.int .u8 (p : Int), .int .u16 (s : Int), .int .u16 (x : Int)] W fun en w' => en = .returned (.agg #[.int .u8 3, .int .u64 0, .int .i64 3, .int .u32 (pa : Int), .int .u8 (pn : Int), .int .u16 (s : Int), .int .u16 (x : Int)]) ∧ Below W.heap.size W w') := Lib.hid fun W => by
      rw [hpa, hpn]
      exact up_any W p s x (by omega)
    have CU2 : Hid (∀ W, Calls Tryz.prog 16 #[.int .u8 (p : Int), .int .u16 (s : Int), .int .u16 65535] W fun en w' => en = .returned (.agg #[.int .u8 3, .int .u64 0, .int .i64 3, .int .u32 (pa : Int), .int .u8 (pn : Int), .int .u16 (s : Int), .int .u16 65535]) ∧ Below W.heap.size W w') := Lib.hid fun W => by
      rw [hpa, hpn]
      exact up_any W p s 65535 (by omega)
    have HS0 : Hid (∀ w1 W q, LW w1 W q (Eng.m0 96 96) [] → Calls Tryz.prog 17 #[.pointer (some ⟨q, 0, none⟩)] W fun en w' => ∃ v' e1, en = .returned v' ∧ LW w1 w' q e1 [] ∧ St 96 96 p [] none 1 0 1 e1 ∧ e1.he = 0 ∧ e1.rq = [] ∧ e1.ch = [oR]) := Lib.hid fun w1 W q h => by
      have st := St.m0 96 96 p
      have so := st.sok (fun x hx => by cases hx) (by decide) (by decide)
      refine (select_lw h so).mono ?_
      rintro en w' ⟨v', e', ts, rfl, hS, hL, -⟩
      obtain ⟨k1, k2, -, k4⟩ := st.sel so h.ok hS
      have hts := sel_none hS rfl rfl rfl
      refine ⟨v', e', rfl, hL, k2, by rw [(hS.chose h.ok so).1.keep]; rfl, ?_, by rw [k4, hts]; rfl⟩
      rw [ask_none hS fun a n => Or.inl rfl]; rfl
    have HT1 : Hid (∀ w1 W q e, LW w1 W q e [] → (St 96 96 p [] none 1 0 1 e ∧ e.he = 0 ∧ e.rq = [] ∧ e.ch = [oR]) → Calls Tryz.prog 24 #[.pointer (some ⟨q, 0, none⟩), .int .u64 1, .slice none 0 0] W fun en w' => ∃ v' e', en = .returned v' ∧ LW w1 w' q e' [] ∧ St 96 96 p [] none 1 0 1 e' ∧ e'.he = 0 ∧ e'.rq = [] ∧ e'.ch = [oR]) := Lib.hid fun w1 W q e h hQ => (tell_lw h (by rw [hQ.2.1]; decide) (Nat.le_trans hQ.1.sz.2.1 (by decide)) 1 none 0 0 [] rfl (by decide) (fun j hj => absurd hj (Nat.not_lt_zero j)) (Or.inl rfl)).mono fun en w' ⟨A, n, c, he, _, _, _, _, hL⟩ => ⟨_, _, he, hL, ⟨hQ.1.met.tell 1, hQ.1.L, hQ.1.f, hQ.1.sz.1, by
      show (if e.due = true ∨ 1 % 8 = 0 then [] else e.lost).length ≤ 0
      split
      · exact Nat.le_refl 0
      · exact hQ.1.sz.2.1, hQ.1.sz.2.2⟩, hQ.2.1, rfl, hQ.2.2.2⟩
    have HH1 : Hid (∀ w1 W q e, LW w1 W q e [] → (St 96 96 p [] none 1 0 1 e ∧ e.he = 0 ∧ e.rq = [] ∧ e.ch = [oR]) → Calls Tryz.prog 15 #[.pointer (some ⟨q, 0, none⟩), .agg #[.int .i64 1, .slice (some ⟨W.heap.size, 0, none⟩) 1 1], .int .i64 0, .int .u64 2] (W.alloc (.cells #[.int .u8 3, .int .u64 0, .int .i64 3, .int .u32 (pa : Int), .int .u8 (pn : Int), .int .u16 (s : Int), .int .u16 (x : Int)] 32)) fun en w' => en = .returned (.tuple #[]) ∧ ∃ e', LW w1 w' q e' [] ∧ St 96 96 p (Eg.one (pA p) (pN p) 1 s x 2) none 1 0 1 e' ∧ e'.he = 0 ∧ e'.rq = [] ∧ e'.ch = [oR]) := Lib.hid fun w1 W q e h hQ => by
      have st := hQ.1.upd 1 2 s x
      rw [tell_one] at st
      refine (hear_12 (h.add #[.int .u8 3, .int .u64 0, .int .i64 3, .int .u32 (pa : Int), .int .u8 (pn : Int), .int .u16 (s : Int), .int .u16 (x : Int)] 32) hQ.1.met (row_up W 3 pa pn s x) (by rw [hpa, hpn]; exact uP_ok (by omega) (by omega)) rfl (by rw [hQ.1.L]; decide)).mono ?_
      rintro en w' ⟨rfl, hL⟩
      refine ⟨rfl, _, hL, by rw [hpa, hpn]; exact st, ?_, ?_, ?_⟩
      · exact Eq.trans (by unfold Eng.upd; split <;> rfl) hQ.2.1
      · exact Eq.trans (by unfold Eng.upd; split <;> rfl) hQ.2.2.1
      · exact Eq.trans (by unfold Eng.upd; split <;> rfl) hQ.2.2.2
    have HS1 : Hid (∀ w1 W q e, LW w1 W q e [] → (St 96 96 p (Eg.one (pA p) (pN p) 1 s x 2) none 1 0 1 e ∧ e.he = 0 ∧ e.rq = [] ∧ e.ch = [oR]) → Calls Tryz.prog 17 #[.pointer (some ⟨q, 0, none⟩)] W fun en w' => ∃ v' e', en = .returned v' ∧ LW w1 w' q e' [] ∧ St 96 96 p (Eg.one (pA p) (pN p) 1 s x 2) (some (s, x + 96)) 3 1 2 e' ∧ e'.he = 0 ∧ e'.rq = [] ∧ e'.due = true ∧ e'.lost = [] ∧ (e'.ch = [oR, (⟨pa, pn, 1, x + 96, s⟩ : Ro)] ∨ e'.ch = [(⟨pa, pn, 1, x + 96, s⟩ : Ro), oR])) := Lib.hid fun w1 W q e h hQ => by
      have so9 := hQ.1.sok (AllP.one p 1 s x 2) (by rw [e1]; decide) (by decide)
      refine (select_lw h so9).mono ?_
      rintro en w' ⟨v', e', ts, rfl, hS, hL, -⟩
      obtain ⟨k1, k2, -, kt⟩ := hQ.1.sel so9 h.ok hS
      have k3 : selP e.cf e.f (Eg.one (pA p) (pN p) 1 s x 2) (pA p) (pN p) = some ⟨pA p, pN p, 1, x + 96, s⟩ := by
        rw [selP_one (by omega), hQ.1.met.cf1, feas_none hQ.1.f]
        exact if_pos ⟨show x + max 96 1 < 65535 by omega, Or.inr rfl⟩
      have hts : ts = [oR, (⟨pa, pn, 1, x + 96, s⟩ : Ro)] ∨ ts = [(⟨pa, pn, 1, x + 96, s⟩ : Ro), oR] := by
        refine sel_two hS (y := ⟨pA p, pN p, 1, 3, s, x, 52⟩) (by rw [hQ.1.L, one_eq (by omega)]) hQ.1.met.own hQ.1.met.id ?_ ?_
        · rw [hQ.1.L, hpa, hpn]; exact k3
        · unfold wayOf
          rw [hQ.1.met.cf1, hpa, hpn]; rfl
      rw [k3, e1] at k2
      have k4 : mkTo none (e.f.best (pA p) (pN p)) (some ⟨pA p, pN p, 1, x + 96, s⟩) = (some (s, x + 96)) := by
        show some (e.f.best (pA p) (pN p) (s, x + 96)) = _
        rw [best_none hQ.1.f]
      rw [k4] at k2
      have hml := sel_more hS (by rw [hQ.2.2.2]; intro h9; rcases hts with h8 | h8 <;> rw [h8] at h9 <;> simp at h9) (fun r hr => by
        rw [hQ.2.2.2, List.mem_singleton] at hr
        subst hr
        rcases hts with h8 | h8 <;> rw [h8] <;> simp [Ro.pk, oR])
      have hl0 : e.lost = [] := List.eq_nil_of_length_eq_zero (Nat.le_zero.1 hQ.1.sz.2.1)
      refine ⟨v', e', rfl, hL, k2, by rw [(hS.chose h.ok so9).1.keep]; exact hQ.2.1, ?_, hml.1, by rw [hml.2, hl0], by rw [kt]; exact hts⟩
      rw [ask_none hS fun a n => ?_]
      · exact hQ.2.2.1
      · rw [hQ.1.L, one_eq (by omega)]
        by_cases hq : pA p = a ∧ pN p = n
        · refine Or.inr ⟨⟨pA p, pN p, 1, 3, s, x, 52⟩, by simp [ofp, hq], ?_⟩
          show e'.f.feas (pA p) (pN p) (s, x) = true
          rw [feas_same k2.f]
          simp
        · exact Or.inl (by simp [ofp]; exact fun h1 h2 => hq ⟨h1, h2⟩)
    have HT3 : Hid (∀ w1 W q e, LW w1 W q e [] → (St 96 96 p (Eg.one (pA p) (pN p) 1 s x 2) (some (s, x + 96)) 3 1 2 e ∧ e.he = 0 ∧ e.rq = [] ∧ e.due = true ∧ e.lost = [] ∧ (e.ch = [oR, (⟨pa, pn, 1, x + 96, s⟩ : Ro)] ∨ e.ch = [(⟨pa, pn, 1, x + 96, s⟩ : Ro), oR])) → Calls Tryz.prog 24 #[.pointer (some ⟨q, 0, none⟩), .int .u64 3, .slice none 0 0] W fun en w' => ∃ v' e', en = .returned v' ∧ LW w1 w' q e' [] ∧ St 96 96 p (Eg.one (pA p) (pN p) 1 s x 2) (some (s, x + 96)) 3 1 2 e' ∧ e'.he = 0 ∧ e'.rq = [] ∧ e'.lost = [] ∧ (e'.ch = [oR, (⟨pa, pn, 1, x + 96, s⟩ : Ro)] ∨ e'.ch = [(⟨pa, pn, 1, x + 96, s⟩ : Ro), oR])) := Lib.hid fun w1 W q e h hQ => (tell_lw h (by rw [hQ.2.1]; decide) (Nat.le_trans hQ.1.sz.2.1 (by decide)) 3 none 0 0 [] rfl (by decide) (fun j hj => absurd hj (Nat.not_lt_zero j)) (Or.inl rfl)).mono fun en w' ⟨A, n, c, he, _, _, _, _, hL⟩ => ⟨_, _, he, hL, ⟨hQ.1.met.tell 3, hQ.1.L, hQ.1.f, hQ.1.sz.1, by
      show (if e.due = true ∨ 3 % 8 = 0 then [] else e.lost).length ≤ 1
      rw [if_pos (Or.inl hQ.2.2.2.1)]; decide, hQ.1.sz.2.2⟩, hQ.2.1, rfl, if_pos (Or.inl hQ.2.2.2.1), hQ.2.2.2.2.2⟩
    have HH3 : Hid (∀ w1 W q e, LW w1 W q e [] → (St 96 96 p (Eg.one (pA p) (pN p) 1 s x 2) (some (s, x + 96)) 3 1 2 e ∧ e.he = 0 ∧ e.rq = [] ∧ e.lost = [] ∧ (e.ch = [oR, (⟨pa, pn, 1, x + 96, s⟩ : Ro)] ∨ e.ch = [(⟨pa, pn, 1, x + 96, s⟩ : Ro), oR])) → Calls Tryz.prog 15 #[.pointer (some ⟨q, 0, none⟩), .agg #[.int .i64 1, .slice (some ⟨W.heap.size, 0, none⟩) 1 1], .int .i64 0, .int .u64 2] (W.alloc (.cells #[.int .u8 3, .int .u64 0, .int .i64 3, .int .u32 (pa : Int), .int .u8 (pn : Int), .int .u16 (s : Int), .int .u16 65535] 32)) fun en w' => en = .returned (.tuple #[]) ∧ ∃ e', LW w1 w' q e' [] ∧ St 96 96 p [] (some (s, x + 96)) 3 1 2 e' ∧ e'.he = 0 ∧ e'.rq = [] ∧ e'.lost = [] ∧ (e'.ch = [oR, (⟨pa, pn, 1, x + 96, s⟩ : Ro)] ∨ e'.ch = [(⟨pa, pn, 1, x + 96, s⟩ : Ro), oR])) := Lib.hid fun w1 W q e h hQ => by
      have st := hQ.1.upd 1 2 s 65535
      rw [tell_end1] at st
      refine (hear_12 (h.add #[.int .u8 3, .int .u64 0, .int .i64 3, .int .u32 (pa : Int), .int .u8 (pn : Int), .int .u16 (s : Int), .int .u16 65535] 32) hQ.1.met (row_up W 3 pa pn s 65535) (by rw [hpa, hpn]; exact uP_ok (by omega) (by omega)) rfl (by rw [hQ.1.L, e1]; decide)).mono ?_
      rintro en w' ⟨rfl, hL⟩
      refine ⟨rfl, _, hL, by rw [hpa, hpn]; exact st, ?_, ?_, ?_, ?_⟩
      · exact Eq.trans (by unfold Eng.upd; split <;> rfl) hQ.2.1
      · exact Eq.trans (by unfold Eng.upd; split <;> rfl) hQ.2.2.1
      · exact Eq.trans (by unfold Eng.upd; split <;> rfl) hQ.2.2.2.1
      · have k1 : (e.upd 1 2 ⟨3, 0, 3, pa, pn, s, 65535⟩).ch = e.ch := by unfold Eng.upd; split <;> rfl
        rw [k1]; exact hQ.2.2.2.2
    have HS3 : Hid (∀ w1 W q e, LW w1 W q e [] → (St 96 96 p [] (some (s, x + 96)) 3 1 2 e ∧ e.he = 0 ∧ e.rq = [] ∧ e.lost = [] ∧ (e.ch = [oR, (⟨pa, pn, 1, x + 96, s⟩ : Ro)] ∨ e.ch = [(⟨pa, pn, 1, x + 96, s⟩ : Ro), oR])) → Calls Tryz.prog 17 #[.pointer (some ⟨q, 0, none⟩)] W fun en w' => ∃ v' e', en = .returned v' ∧ LW w1 w' q e' [] ∧ Met 96 96 e' ∧ e'.he = 0 ∧ e'.rq = [] ∧ e'.due = true ∧ e'.lost = [(pa, pn)] ∧ e'.ch = [oR]) := Lib.hid fun w1 W q e h hQ => by
      have so9 := hQ.1.sok (fun y hy => by cases hy) (by decide) (by decide)
      refine (select_lw h so9).mono ?_
      rintro en w' ⟨v', e', ts, rfl, hS, hL, -⟩
      obtain ⟨-, k2, -, kt⟩ := hQ.1.sel so9 h.ok hS
      have hts : ts = [oR] := sel_none hS hQ.1.L hQ.1.met.own hQ.1.met.id
      have hls := sel_less hS hts hQ.2.2.2.2 (by unfold Ro.pk oR; simp; omega) hQ.2.2.2.1
      refine ⟨v', e', rfl, hL, k2.met, by rw [(hS.chose h.ok so9).1.keep]; exact hQ.2.1, ?_, hls.1, hls.2, by rw [kt, hts]⟩
      rw [ask_none hS fun a n => Or.inl (by rw [hQ.1.L]; rfl)]
      exact hQ.2.2.1
    clear hpa hpn e1 h96
    go_enter Tryz.func5, Tryz.ntmps5
    go_upto_region 8 with (first
      | (go_at_call 13; (with_reducible refine (awake_any w HT.out).mono ?_); rintro en wa ⟨rfl, hB⟩; have HA := Lib.hid (And.intro hB (Lk.tab_below HT.out hB h0)); clear hB)
      | (go_at_call 14; (with_reducible refine (HM.out _ HA.out.2).mono ?_); rintro en w2 ⟨q, w1, rfl, hB, hL⟩; have H1 := Lib.hid (HA.out.1.trans (hB.mono HA.out.1.size)); have HL := Lib.hid hL; clear hB hL HM)
      | (go_at_call 17; (with_reducible refine (HS0.out _ _ _ HL.out).mono ?_); rintro en w3 ⟨v3, e3, rfl, hL, hQ⟩; have HL3 := Lib.hid hL; have HQ3 := Lib.hid hQ; clear hL hQ HL HS0)
      | (go_at_call 24; (with_reducible refine (HT1.out _ _ _ _ HL3.out HQ3.out).mono ?_); rintro en w4 ⟨v4, e4, rfl, hL, hQ⟩; have HL4 := Lib.hid hL; have HQ4 := Lib.hid hQ; clear hL hQ HL3 HQ3 HT1)
      | (go_at_call 16; (with_reducible refine (CU1.out _).mono ?_); rintro en w5 ⟨rfl, hB⟩; have HL5 := Lib.hid (HL4.out.step hB); clear hB HL4 CU1)
      | (go_at_call 15; (with_reducible refine (HH1.out _ _ _ _ HL5.out HQ4.out).mono ?_); rintro en w6 ⟨rfl, e6, hL, hQ⟩; have HL6 := Lib.hid hL; have HQ6 := Lib.hid hQ; clear hL hQ HL5 HQ4 HH1)
      | (go_at_call 17; (with_reducible refine (HS1.out _ _ _ _ HL6.out HQ6.out).mono ?_); rintro en w7 ⟨v7, e7, rfl, hL, hQ⟩; have HL7 := Lib.hid hL; have HQ7 := Lib.hid hQ; clear hL hQ HL6 HQ6 HS1))
    cases a4 with
    | true =>
      go_upto_region 12 with (first
        | (go_at_call 24; (with_reducible refine (HT3.out _ _ _ _ HL7.out HQ7.out).mono ?_); rintro en w8 ⟨v8, e8, rfl, hL, hQ⟩; have HL8 := Lib.hid hL; have HQ8 := Lib.hid hQ; clear hL hQ HL7 HQ7 HT3)
        | (go_at_call 16; (with_reducible refine (CU2.out _).mono ?_); rintro en w9 ⟨rfl, hB⟩; have HL9 := Lib.hid (HL8.out.step hB); clear hB HL8 CU2)
        | (go_at_call 15; (with_reducible refine (HH3.out _ _ _ _ HL9.out HQ8.out).mono ?_); rintro en wa2 ⟨rfl, ea, hL, hQ⟩; have HLa := Lib.hid hL; have HQa := Lib.hid hQ; clear hL hQ HL9 HQ8 HH3)
        | (go_at_call 17; (with_reducible refine (HS3.out _ _ _ _ HLa.out HQa.out).mono ?_); rintro en wb2 ⟨vb, eb, rfl, hL, hQ⟩; have HLb := Lib.hid hL; have HQb := Lib.hid hQ; clear hL hQ HLa HQa HS3))
      cases a3 with
      | true =>
        by_cases hp : now % 2 = 0
        · have HP := Lib.hid hp
          have hpi : (((now : Int) % 2) == 0) = true := by simp; omega
          clear hp
          have HTF : Hid (∀ w1 W q e rb, LW w1 W q e [(rb, #[.int .u32 (pa : Int), .int .u8 (pn : Int), .bool false, .int .u32 0, .int .u8 0, .int .i64 0, .int .u16 0, .int .u16 0, .int .u16 (s : Int), .int .u16 ((x : Int) + 96)], 62)] → (Met 96 96 e ∧ e.he = 0 ∧ e.rq = [] ∧ e.due = true ∧ e.lost = [(pa, pn)] ∧ e.ch = [oR]) → Calls Tryz.prog 24 #[.pointer (some ⟨q, 0, none⟩), .int .u64 (now : Int), .slice (some ⟨rb, 0, none⟩) 1 1] W fun en w' => ∃ g7 c7 t1 t2, en = .returned (.tuple #[.agg #[.int .i64 0, .slice (some ⟨g7, 0, none⟩) 5 c7], .bool true]) ∧ 5 ≤ c7 ∧ Below w1.heap.size w1 w' ∧ g7 < w'.heap.size ∧ (∀ j (hj : j < (hP ++ [t1, t2]).length), ∀ i, i < 7 → w'.cell? ⟨g7, j * 7 + i, none⟩ = (Pt.cl ((hP : List Pt) ++ [t1, t2])[j])[i]?) ∧ ((t1 = mineP ∧ t2 = (⟨3, 0, 0, pa, pn, 0, 65535⟩ : Pt)) ∨ (t1 = (⟨3, 0, 0, pa, pn, 0, 65535⟩ : Pt) ∧ t2 = mineP))) := Lib.hid fun w1 W q e rb h hQ => by
            have hpr : e.upds [(⟨pa, pn, false, 0, 0, 0, 0, 0, s, x + 96⟩ : Rw)] = [mineP, (⟨3, 0, 0, pa, pn, 0, 65535⟩ : Pt)] ∨ e.upds [(⟨pa, pn, false, 0, 0, 0, 0, 0, s, x + 96⟩ : Rw)] = [(⟨3, 0, 0, pa, pn, 0, 65535⟩ : Pt), mineP] := Or.inr (upds_gone hQ.1.id hQ.2.2.2.2.1 hQ.2.2.2.2.2 hpl hpo (⟨pa, pn, false, 0, 0, 0, 0, 0, s, x + 96⟩ : Rw) hpo)
            have htp := tellP_is hQ.1 hQ.2.1 hQ.2.2.1 hQ.2.2.2.1 now [(⟨pa, pn, false, 0, 0, 0, 0, 0, s, x + 96⟩ : Rw)]
            rw [if_pos HP.out] at htp
            have hne : e.tellP now [(⟨pa, pn, false, 0, 0, 0, 0, 0, s, x + 96⟩ : Rw)] ≠ [] := by
              rw [htp]
              rcases hpr with h9 | h9 <;> rw [h9] <;> simp
            have hcast : ((x + 96 : Nat) : Int) = (x : Int) + 96 := by omega
            have hrow : W.heap[rb]? = some (.cells (Rw.cl (⟨pa, pn, false, 0, 0, 0, 0, 0, s, x + 96⟩ : Rw)).toArray 62 (0, 0)) := by
              have h9 := h.row (List.mem_cons_self ..)
              rw [← hcast] at h9
              exact h9
            have hc := tell_lw0 h (by rw [hQ.2.1]; decide) (by rw [hQ.2.2.2.2.1]; exact (show 1 ≤ 400 by decide)) now (some ⟨rb, 0, none⟩) 1 1 [(⟨pa, pn, false, 0, 0, 0, 0, 0, s, x + 96⟩ : Rw)] rfl (by decide) (gsl_row hrow) (Or.inr ⟨rb, _, rfl, List.mem_cons_self ..⟩) hne
            refine hc.mono ?_
            rintro en w' ⟨g, c, rfl, hle, hg, hcs, hL⟩
            rw [hQ.1.id]
            rw [htp] at hle hcs ⊢
            rcases hpr with h9 | h9
            · rw [h9] at hle hcs ⊢
              exact ⟨g, c, _, _, rfl, hle, hL.b, hg, hcs, Or.inl ⟨rfl, rfl⟩⟩
            · rw [h9] at hle hcs ⊢
              exact ⟨g, c, _, _, rfl, hle, hL.b, hg, hcs, Or.inr ⟨rfl, rfl⟩⟩
          go_upto_region 13 with (go_at_call 19; (with_reducible refine (CP.out _).mono ?_); rintro en wg ⟨rfl, hB⟩; have HLg := Lib.hid (HLb.out.step hB); clear hB HLb)
          have HLh := Lib.hid (HLg.out.add #[.int .u32 (pa : Int), .int .u8 (pn : Int), .bool false, .int .u32 0, .int .u8 0, .int .i64 0, .int .u16 0, .int .u16 0, .int .u16 (s : Int), .int .u16 ((x : Int) + 97)] 62)
          have HRBW := Lib.hid HLg.out.b.size
          clear HLg
          generalize World.alloc wg _ = wh at *
          generalize wg.heap.size = rb at *
          have hrow := HLh.out.row (List.mem_cons_self ..)
          have c9 := cell_of_row wh rb 9 _ 62 (0, 0) hrow
          have f9 := frozen_of_row wh rb 9 _ 62 hrow
          have hrl := (Array.getElem?_eq_some_iff.1 hrow).1
          have HLi := Lib.hid (HLh.out.set HRBW.out (fun k hk => by cases hk) 9 (.int .u16 ((x : Int) + 96)))
          clear hrow HLh
          go_upto_region 15 with (fail)
          clear c9 f9 hrl
          generalize World.setCell _ _ _ = wi at *
          go_upto_region 16 with (go_at_call 24; (with_reducible refine (HTF.out _ _ _ _ _ HLi.out HQb.out).mono ?_); rintro en wt ⟨g7, c7, t1, t2, rfl, hc7, hB, hg, hcs, hpr⟩; have HT7 := Lib.hid (And.intro hB (And.intro hg (And.intro hcs hpr))); clear hB hg hcs hpr HLi HTF HQb)
          have BY := (Below.refl wt.heap.size wt).alloc (Nat.le_refl _) (.cells #[.int .i64 0, .slice (some ⟨g7, 0, none⟩) 5 c7] 36)
          have HTW : Hid (TW w1 wt g7 wt.heap.size #[.int .i64 0, .slice (some ⟨g7, 0, none⟩) 5 c7] (wt.alloc (.cells #[.int .i64 0, .slice (some ⟨g7, 0, none⟩) 5 c7] 36))) := Lib.hid ⟨HT7.out.1.trans (BY.mono HT7.out.1.size), ⟨HT7.out.1.size, BY.size⟩, HT7.out.2.1, fun o => (Ser.bcell BY).1 g7 o HT7.out.2.1, heap_alloc_new wt _⟩
          clear BY
          generalize wt.alloc _ = wy at *
          generalize hby : wt.heap.size = by9 at HTW
          have HBY9 := Lib.hid hby
          clear hby
          obtain ⟨d0, d1, -⟩ := row2 HTW.out.y
          have hbl := (Array.getElem?_eq_some_iff.1 HTW.out.y).1
          have hgl := Nat.lt_of_lt_of_le HTW.out.g HTW.out.t.2
          have p0 : wy.cell? ⟨g7, 0, none⟩ = some (.int .u8 1) := (HTW.out.gc 0).trans (HT7.out.2.2.1 0 (by simp [hP]) 0 (by decide))
          have p7 : wy.cell? ⟨g7, 7, none⟩ = some (.int .u8 2) := (HTW.out.gc 7).trans (HT7.out.2.2.1 1 (by simp [hP]) 0 (by decide))
          have p8 : wy.cell? ⟨g7, 8, none⟩ = some (.int .u64 0) := (HTW.out.gc 8).trans (HT7.out.2.2.1 1 (by simp [hP]) 1 (by decide))
          have p9 : wy.cell? ⟨g7, 9, none⟩ = some (.int .i64 1) := (HTW.out.gc 9).trans (HT7.out.2.2.1 1 (by simp [hP]) 2 (by decide))
          have p10 : wy.cell? ⟨g7, 10, none⟩ = some (.int .u32 0) := (HTW.out.gc 10).trans (HT7.out.2.2.1 1 (by simp [hP]) 3 (by decide))
          have p11 : wy.cell? ⟨g7, 11, none⟩ = some (.int .u8 0) := (HTW.out.gc 11).trans (HT7.out.2.2.1 1 (by simp [hP]) 4 (by decide))
          have p12 : wy.cell? ⟨g7, 12, none⟩ = some (.int .u16 0) := (HTW.out.gc 12).trans (HT7.out.2.2.1 1 (by simp [hP]) 5 (by decide))
          have p13 : wy.cell? ⟨g7, 13, none⟩ = some (.int .u16 96) := (HTW.out.gc 13).trans (HT7.out.2.2.1 1 (by simp [hP]) 6 (by decide))
          have p14 : wy.cell? ⟨g7, 14, none⟩ = some (.int .u8 2) := (HTW.out.gc 14).trans (HT7.out.2.2.1 2 (by simp [hP]) 0 (by decide))
          have p15 : wy.cell? ⟨g7, 15, none⟩ = some (.int .u64 0) := (HTW.out.gc 15).trans (HT7.out.2.2.1 2 (by simp [hP]) 1 (by decide))
          have p16 : wy.cell? ⟨g7, 16, none⟩ = some (.int .i64 2) := (HTW.out.gc 16).trans (HT7.out.2.2.1 2 (by simp [hP]) 2 (by decide))
          have p17 : wy.cell? ⟨g7, 17, none⟩ = some (.int .u32 0) := (HTW.out.gc 17).trans (HT7.out.2.2.1 2 (by simp [hP]) 3 (by decide))
          have p18 : wy.cell? ⟨g7, 18, none⟩ = some (.int .u8 0) := (HTW.out.gc 18).trans (HT7.out.2.2.1 2 (by simp [hP]) 4 (by decide))
          have p19 : wy.cell? ⟨g7, 19, none⟩ = some (.int .u16 0) := (HTW.out.gc 19).trans (HT7.out.2.2.1 2 (by simp [hP]) 5 (by decide))
          have p20 : wy.cell? ⟨g7, 20, none⟩ = some (.int .u16 96) := (HTW.out.gc 20).trans (HT7.out.2.2.1 2 (by simp [hP]) 6 (by decide))
          go_upto_region 23 with (fail)
          clear d0 d1 hbl p0 hgl p7 p8 p9 p10 p11 p12 p13 p14 p15 p16 p17 p18 p19 p20
          go_upto_region 24 with (go_at_call 25; (with_reducible refine (own_call _).mono ?_); rintro en wz ⟨z, rfl, hS, hR, B⟩; have HTW2 := Lib.hid (HTW.out.step B); obtain ⟨q0, q1, -⟩ := row2 hR; have hzl := (Array.getElem?_eq_some_iff.1 hR).1; clear hS hR B HTW)
          clear q0 q1 hzl
          have BM := (Below.refl wz.heap.size wz).alloc (Nat.le_refl _) (.cells #[.int .u8 3, .int .u64 0, .int .i64 0, .int .u32 201326592, .int .u8 24, .int .u16 1, .int .u16 65535] 32)
          have HTW3 := Lib.hid (HTW2.out.step BM)
          have HM3 := Lib.hid (heap_alloc_new wz (.cells #[.int .u8 3, .int .u64 0, .int .i64 0, .int .u32 201326592, .int .u8 24, .int .u16 1, .int .u16 65535] 32))
          clear BM HTW2
          generalize wz.alloc _ = wm at *
          generalize wz.heap.size = bm at *
          go_upto_region 25 with (go_at_call 19; (with_reducible refine (CP.out _).mono ?_); rintro en wn ⟨rfl, hB⟩; have HTW4 := Lib.hid (HTW3.out.step hB); have HM4 := Lib.hid (brow hB HM3.out); clear hB HTW3 HM3)
          have BM := (Below.refl wn.heap.size wn).alloc (Nat.le_refl _) (.cells #[.int .u8 3, .int .u64 0, .int .i64 0, .int .u32 (pa : Int), .int .u8 (pn : Int), .int .u16 (s : Int), .int .u16 ((x : Int) + 96)] 32)
          have HTW5 := Lib.hid (HTW4.out.step BM)
          have HM5 := Lib.hid (brow BM HM4.out)
          have HR5 := Lib.hid (heap_alloc_new wn (.cells #[.int .u8 3, .int .u64 0, .int .i64 0, .int .u32 (pa : Int), .int .u8 (pn : Int), .int .u16 (s : Int), .int .u16 ((x : Int) + 96)] 32))
          have HBT5 := Lib.hid (And.intro HTW4.out.t.2 (show bm ≠ wn.heap.size from fun e9 => absurd (Array.getElem?_eq_some_iff.1 HM4.out).1 (by rw [e9]; exact Nat.lt_irrefl _)))
          clear BM HTW4 HM4
          generalize wn.alloc _ = wo at *
          generalize wn.heap.size = bt at *
          go_upto_region 27 with (fail)
          go_upto_region 29 with (go_at_call 19; (with_reducible refine (CP.out _).mono ?_); rintro en wq ⟨rfl, hB⟩; have HTW7 := Lib.hid (HTW5.out.step hB); have HM7 := Lib.hid (brow hB HM5.out); have HR7 := Lib.hid (brow hB HR5.out); obtain ⟨k0, k1, k2, k3, k4, k5, k6, kf⟩ := row7 HR7.out; have hrl := (Array.getElem?_eq_some_iff.1 HR7.out).1; clear hB HTW5 HM5 HR5)
          clear k0 k1 k2 k3 k4 k5 k6 kf hrl
          have HM8 := Lib.hid ((fr7 wq bt (.int .u8 3) (.int .u64 0) (.int .i64 0) (.int .u32 (pa : Int)) (.int .u8 (pn : Int)) (.int .u16 0) (.int .u16 65535)).row HM7.out HBT5.out.2)
          have HR8 := Lib.hid (set7 HR7.out (.int .u8 3) (.int .u64 0) (.int .i64 0) (.int .u32 (pa : Int)) (.int .u8 (pn : Int)) (.int .u16 0) (.int .u16 65535))
          have HTW8 := Lib.hid (HTW7.out.set7 HBT5.out.1 HR7.out (.int .u8 3) (.int .u64 0) (.int .i64 0) (.int .u32 (pa : Int)) (.int .u8 (pn : Int)) (.int .u16 0) (.int .u16 65535))
          clear HTW7 HM7 HR7
          generalize World.setCell (World.setCell (World.setCell (World.setCell (World.setCell (World.setCell (World.setCell wq _ _) _ _) _ _) _ _) _ _) _ _) _ _ = wr0 at *
          have HPO : Hid (((pa : Int) == 201326592) = false) := Lib.hid (by simp; omega)
          have HBM := HM8
          have HBT := HR8
          have HBY := Lib.hid HTW8.out.y
          have HGL := Lib.hid (Nat.lt_of_lt_of_le HTW8.out.g HTW8.out.t.2)
          obtain ⟨d0, d1, -⟩ := row2 HBY.out
          have hbl := (Array.getElem?_eq_some_iff.1 HBY.out).1
          go_wp2
          go_loopw [20, 21] (fun nv iv wr => ∃ i : Nat, 3 ≤ i ∧ i ≤ 5 ∧ iv = .int .i64 i ∧ nv = .int .i64 ((i : Int) - 3) ∧ Hid (Below wr0.heap.size wr0 wr)) (fun _ iv _ => 5 - (intOf iv).toNat)
          case atStart => exact ⟨3, by decide, by decide, rfl, rfl, Lib.hid (Below.refl _ _)⟩
          case round =>
            obtain ⟨i, hi0, hi, rfl, rfl, HB⟩ := hrel
            obtain ⟨d0, d1, -⟩ := row2 (brow HB.out HBY.out)
            have hbl := (Array.getElem?_eq_some_iff.1 (brow HB.out HBY.out)).1
            by_cases hlt : i < 5
            · have hcs := HT7.out.2.2.1 i (by simp [hP]; omega)
              have htt : (((hP : List Pt) ++ [t1, t2])[i]'(by simp [hP]; omega)) = mineP ∨ (((hP : List Pt) ++ [t1, t2])[i]'(by simp [hP]; omega)) = (⟨3, 0, 0, pa, pn, 0, 65535⟩ : Pt) := by
                have hii : i = 3 ∨ i = 4 := by omega
                rcases hii with rfl | rfl <;> rcases HT7.out.2.2.2 with ⟨h8, h9⟩ | ⟨h8, h9⟩ <;> subst h8 h9
                · exact Or.inl rfl
                · exact Or.inr rfl
                · exact Or.inr rfl
                · exact Or.inl rfl
              rcases htt with htt | htt
              · rw [htt] at hcs
                have HPC : Hid (PX wr0 g7 (i * 7) 201326592 24 1 65535) := Lib.hid ⟨(HTW8.out.gc _).trans (hcs 0 (by decide)), (HTW8.out.gc _).trans (hcs 1 (by decide)), (HTW8.out.gc _).trans (hcs 2 (by decide)), (HTW8.out.gc _).trans (hcs 3 (by decide)), (HTW8.out.gc _).trans (hcs 4 (by decide)), (HTW8.out.gc _).trans (hcs 5 (by decide)), (HTW8.out.gc _).trans (hcs 6 (by decide))⟩
                clear hcs htt
                unfold PX at HPC
                go_upto_region 33 with (fail)
                clear d0 d1 hbl
                refine wp_region_noPanic ?_
                refine wp_region_held_drew (S := fun y9 : World => Below wr.heap.size wr y9) (by kernel_rfl) ((Below.refl _ _).drew) (fun hHeld => ?_)
                generalize wr.drew = wd at *
                refine wpAnyH_take (i := 0) (oi := ⟨some 142, .fieldAddr 36 (.tmp 15) 1, 0, "law.go:166", #[], none⟩) (v := .pointer (some ⟨by9, 1, none⟩)) rfl (by kernel_rfl) (by kernel_rfl) (by kernel_rfl) (fun _ _ _ h => h) (Or.inl ⟨by rfl, fun w hSw => by go_simp⟩) (by assumption) ?_
                try simp only [Act.put, List.setIfInBounds_toArray, List.set_cons_zero, List.set_cons_succ]
                refine wpAnyH_take (i := 1) (oi := ⟨some 143, .load 34 (.tmp 142), 34, "law.go:166", #[⟨0, .data⟩], none⟩) (v := .slice (some ⟨g7, 0, none⟩) 5 c7) rfl (by kernel_rfl) (by kernel_rfl) (by kernel_rfl) (fun _ _ _ h => h) (Or.inl ⟨by rfl, fun w hSw => by obtain ⟨d0, d1, -⟩ := row2 (brow hSw (brow HB.out HBY.out)); have hbl := (Array.getElem?_eq_some_iff.1 (brow hSw (brow HB.out HBY.out))).1; go_simp⟩) (by assumption) ?_
                try simp only [Act.put, List.setIfInBounds_toArray, List.set_cons_zero, List.set_cons_succ]
                refine wpAnyH_take (i := 2) (oi := ⟨some 144, .move (.tmp 21), 3, "law.go:166", #[], none⟩) (v := .int .i64 (i : Int)) rfl (by kernel_rfl) (by kernel_rfl) (by kernel_rfl) (fun _ _ _ h => h) (Or.inl ⟨by rfl, fun w hSw => by go_simp⟩) (by assumption) ?_
                try simp only [Act.put, List.setIfInBounds_toArray, List.set_cons_zero, List.set_cons_succ]
                refine wpAnyH_take (i := 3) (oi := ⟨some 145, .indexAddr 34 (.tmp 143) (.tmp 144), 0, "law.go:166", #[⟨1, .data⟩, ⟨2, .data⟩], none⟩) (v := .pointer (some ⟨g7, i * 7, none⟩)) rfl (by kernel_rfl) (by kernel_rfl) (by kernel_rfl) (fun _ _ _ h => h) (Or.inl ⟨by rfl, fun w hSw => by go_simp⟩) (by assumption) ?_
                try simp only [Act.put, List.setIfInBounds_toArray, List.set_cons_zero, List.set_cons_succ]
                refine wpAnyH_take (i := 4) (oi := ⟨some 146, .load 32 (.tmp 145), 32, "law.go:166", #[⟨3, .data⟩], none⟩) (v := .agg #[.int .u8 3, .int .u64 0, .int .i64 0, .int .u32 201326592, .int .u8 24, .int .u16 1, .int .u16 65535]) rfl (by kernel_rfl) (by kernel_rfl) (by kernel_rfl) (fun _ _ _ h => h) (Or.inl ⟨by rfl, fun w hSw => by have hb := Ser.bcell (HB.out.trans (hSw.mono HB.out.size)); obtain ⟨k0, k1, k2, k3, k4, k5, k6⟩ := HPC.out; have hgl := Nat.lt_of_lt_of_le (Nat.lt_of_lt_of_le HGL.out HB.out.size) hSw.size; rw [← hb.1 _ _ HGL.out] at k0 k1 k2 k3 k4 k5 k6; go_simp⟩) (by assumption) ?_
                try simp only [Act.put, List.setIfInBounds_toArray, List.set_cons_zero, List.set_cons_succ]
                refine wpAnyH_take (i := 5) (oi := ⟨some 147, .load 32 (.tmp 18), 32, "law.go:166", #[], none⟩) (v := .agg #[.int .u8 3, .int .u64 0, .int .i64 0, .int .u32 201326592, .int .u8 24, .int .u16 1, .int .u16 65535]) rfl (by kernel_rfl) (by kernel_rfl) (by kernel_rfl) (fun _ _ _ h => h) (Or.inl ⟨by rfl, fun w hSw => by obtain ⟨m0, m1, m2, m3, m4, m5, m6, -⟩ := row7 (brow hSw (brow HB.out HBM.out)); have hml := (Array.getElem?_eq_some_iff.1 (brow hSw (brow HB.out HBM.out))).1; go_simp⟩) (by assumption) ?_
                try simp only [Act.put, List.setIfInBounds_toArray, List.set_cons_zero, List.set_cons_succ]
                refine wpAnyH_take (i := 6) (oi := ⟨some 148, .binOp .eql 32 (.tmp 146) (.tmp 147) 32, 4, "law.go:166", #[⟨4, .data⟩, ⟨5, .data⟩], none⟩) (v := .bool true) rfl (by kernel_rfl) (by kernel_rfl) (by kernel_rfl) (fun _ _ _ h => h) (Or.inl ⟨by rfl, fun w hSw => by go_simp⟩) (by assumption) ?_
                try simp only [Act.put, List.setIfInBounds_toArray, List.set_cons_zero, List.set_cons_succ]
                refine wpAnyH_take (i := 7) (oi := ⟨some 149, .move (.tmp 148), 4, "law.go:166", #[⟨6, .data⟩], none⟩) (v := .bool true) rfl (by kernel_rfl) (by kernel_rfl) (by kernel_rfl) (fun _ _ _ h => h) (Or.inl ⟨by rfl, fun w hSw => by go_simp⟩) (by assumption) ?_
                try simp only [Act.put, List.setIfInBounds_toArray, List.set_cons_zero, List.set_cons_succ]
                refine wpAnyH_take (i := 8) (oi := ⟨some 150, .fieldAddr 36 (.tmp 15) 1, 0, "law.go:166", #[⟨7, .guard⟩], some (7, false)⟩) (v := undef) rfl (by kernel_rfl) (by kernel_rfl) (by kernel_rfl) (fun _ _ _ h => h) (Or.inr ⟨by rfl, rfl⟩) (by assumption) ?_
                try simp only [Act.put, List.setIfInBounds_toArray, List.set_cons_zero, List.set_cons_succ]
                refine wpAnyH_take (i := 9) (oi := ⟨some 151, .load 34 (.tmp 150), 34, "law.go:166", #[⟨8, .data⟩, ⟨7, .guard⟩], some (7, false)⟩) (v := undef) rfl (by kernel_rfl) (by kernel_rfl) (by kernel_rfl) (fun _ _ _ h => h) (Or.inr ⟨by rfl, rfl⟩) (by assumption) ?_
                try simp only [Act.put, List.setIfInBounds_toArray, List.set_cons_zero, List.set_cons_succ]
                refine wpAnyH_take (i := 10) (oi := ⟨some 152, .move (.tmp 21), 3, "law.go:166", #[⟨7, .guard⟩], some (7, false)⟩) (v := undef) rfl (by kernel_rfl) (by kernel_rfl) (by kernel_rfl) (fun _ _ _ h => h) (Or.inr ⟨by rfl, rfl⟩) (by assumption) ?_
                try simp only [Act.put, List.setIfInBounds_toArray, List.set_cons_zero, List.set_cons_succ]
                refine wpAnyH_take (i := 11) (oi := ⟨some 153, .indexAddr 34 (.tmp 151) (.tmp 152), 0, "law.go:166", #[⟨9, .data⟩, ⟨10, .data⟩, ⟨7, .guard⟩], some (7, false)⟩) (v := undef) rfl (by kernel_rfl) (by kernel_rfl) (by kernel_rfl) (fun _ _ _ h => h) (Or.inr ⟨by rfl, rfl⟩) (by assumption) ?_
                try simp only [Act.put, List.setIfInBounds_toArray, List.set_cons_zero, List.set_cons_succ]
                refine wpAnyH_take (i := 12) (oi := ⟨some 154, .load 32 (.tmp 153), 32, "law.go:166", #[⟨11, .data⟩, ⟨7, .guard⟩], some (7, false)⟩) (v := undef) rfl (by kernel_rfl) (by kernel_rfl) (by kernel_rfl) (fun _ _ _ h => h) (Or.inr ⟨by rfl, rfl⟩) (by assumption) ?_
                try simp only [Act.put, List.setIfInBounds_toArray, List.set_cons_zero, List.set_cons_succ]
                refine wpAnyH_take (i := 13) (oi := ⟨some 155, .load 32 (.tmp 19), 32, "law.go:166", #[⟨7, .guard⟩], some (7, false)⟩) (v := undef) rfl (by kernel_rfl) (by kernel_rfl) (by kernel_rfl) (fun _ _ _ h => h) (Or.inr ⟨by rfl, rfl⟩) (by assumption) ?_
                try simp only [Act.put, List.setIfInBounds_toArray, List.set_cons_zero, List.set_cons_succ]
                refine wpAnyH_take (i := 14) (oi := ⟨some 156, .binOp .eql 32 (.tmp 154) (.tmp 155) 32, 4, "law.go:166", #[⟨12, .data⟩, ⟨13, .data⟩, ⟨7, .guard⟩], some (7, false)⟩) (v := undef) rfl (by kernel_rfl) (by kernel_rfl) (by kernel_rfl) (fun _ _ _ h => h) (Or.inr ⟨by rfl, rfl⟩) (by assumption) ?_
                try simp only [Act.put, List.setIfInBounds_toArray, List.set_cons_zero, List.set_cons_succ]
                refine wpAnyH_take (i := 15) (oi := ⟨some 157, .pick (.tmp 149) (.const (.bool true)) (.tmp 156), 4, "law.go:166", #[⟨7, .data⟩, ⟨14, .data⟩], none⟩) (v := .bool true) rfl (by kernel_rfl) (by kernel_rfl) (by kernel_rfl) (fun _ _ _ h => h) (Or.inl ⟨by rfl, fun w hSw => by go_simp⟩) (by assumption) ?_
                try simp only [Act.put, List.setIfInBounds_toArray, List.set_cons_zero, List.set_cons_succ]
                refine wpAnyH_done (by kernel_rfl) ?_ _
                try unfold NoPanic
                have HD := Lib.hid (HB.out.trans (hHeld.mono HB.out.size))
                clear hHeld
                go_wp2
                go_roundw
                case rel => exact ⟨i + 1, by omega, by omega, by go_num, by go_num, HD⟩
                case measure => simp [intOf]; omega
              · rw [htt] at hcs
                have hcast : ((x + 96 : Nat) : Int) = (x : Int) + 96 := by omega
                have HPC : Hid (PX wr0 g7 (i * 7) (pa : Int) (pn : Int) 0 65535) := Lib.hid ⟨(HTW8.out.gc _).trans (hcs 0 (by decide)), (HTW8.out.gc _).trans (hcs 1 (by decide)), (HTW8.out.gc _).trans (hcs 2 (by decide)), (HTW8.out.gc _).trans (hcs 3 (by decide)), (HTW8.out.gc _).trans (hcs 4 (by decide)), (HTW8.out.gc _).trans (hcs 5 (by decide)), (HTW8.out.gc _).trans (hcs 6 (by decide))⟩
                clear hcs htt hcast
                unfold PX at HPC
                go_upto_region 33 with (fail)
                clear d0 d1 hbl
                refine wp_region_noPanic ?_
                refine wp_region_held_drew (S := fun y9 : World => Below wr.heap.size wr y9) (by kernel_rfl) ((Below.refl _ _).drew) (fun hHeld => ?_)
                generalize wr.drew = wd at *
                refine wpAnyH_take (i := 0) (oi := ⟨some 142, .fieldAddr 36 (.tmp 15) 1, 0, "law.go:166", #[], none⟩) (v := .pointer (some ⟨by9, 1, none⟩)) rfl (by kernel_rfl) (by kernel_rfl) (by kernel_rfl) (fun _ _ _ h => h) (Or.inl ⟨by rfl, fun w hSw => by go_simp⟩) (by assumption) ?_
                try simp only [Act.put, List.setIfInBounds_toArray, List.set_cons_zero, List.set_cons_succ]
                refine wpAnyH_take (i := 1) (oi := ⟨some 143, .load 34 (.tmp 142), 34, "law.go:166", #[⟨0, .data⟩], none⟩) (v := .slice (some ⟨g7, 0, none⟩) 5 c7) rfl (by kernel_rfl) (by kernel_rfl) (by kernel_rfl) (fun _ _ _ h => h) (Or.inl ⟨by rfl, fun w hSw => by obtain ⟨d0, d1, -⟩ := row2 (brow hSw (brow HB.out HBY.out)); have hbl := (Array.getElem?_eq_some_iff.1 (brow hSw (brow HB.out HBY.out))).1; go_simp⟩) (by assumption) ?_
                try simp only [Act.put, List.setIfInBounds_toArray, List.set_cons_zero, List.set_cons_succ]
                refine wpAnyH_take (i := 2) (oi := ⟨some 144, .move (.tmp 21), 3, "law.go:166", #[], none⟩) (v := .int .i64 (i : Int)) rfl (by kernel_rfl) (by kernel_rfl) (by kernel_rfl) (fun _ _ _ h => h) (Or.inl ⟨by rfl, fun w hSw => by go_simp⟩) (by assumption) ?_
                try simp only [Act.put, List.setIfInBounds_toArray, List.set_cons_zero, List.set_cons_succ]
                refine wpAnyH_take (i := 3) (oi := ⟨some 145, .indexAddr 34 (.tmp 143) (.tmp 144), 0, "law.go:166", #[⟨1, .data⟩, ⟨2, .data⟩], none⟩) (v := .pointer (some ⟨g7, i * 7, none⟩)) rfl (by kernel_rfl) (by kernel_rfl) (by kernel_rfl) (fun _ _ _ h => h) (Or.inl ⟨by rfl, fun w hSw => by go_simp⟩) (by assumption) ?_
                try simp only [Act.put, List.setIfInBounds_toArray, List.set_cons_zero, List.set_cons_succ]
                refine wpAnyH_take (i := 4) (oi := ⟨some 146, .load 32 (.tmp 145), 32, "law.go:166", #[⟨3, .data⟩], none⟩) (v := .agg #[.int .u8 3, .int .u64 0, .int .i64 0, .int .u32 (pa : Int), .int .u8 (pn : Int), .int .u16 0, .int .u16 65535]) rfl (by kernel_rfl) (by kernel_rfl) (by kernel_rfl) (fun _ _ _ h => h) (Or.inl ⟨by rfl, fun w hSw => by have hb := Ser.bcell (HB.out.trans (hSw.mono HB.out.size)); obtain ⟨k0, k1, k2, k3, k4, k5, k6⟩ := HPC.out; have hgl := Nat.lt_of_lt_of_le (Nat.lt_of_lt_of_le HGL.out HB.out.size) hSw.size; rw [← hb.1 _ _ HGL.out] at k0 k1 k2 k3 k4 k5 k6; go_simp⟩) (by assumption) ?_
                try simp only [Act.put, List.setIfInBounds_toArray, List.set_cons_zero, List.set_cons_succ]
                refine wpAnyH_take (i := 5) (oi := ⟨some 147, .load 32 (.tmp 18), 32, "law.go:166", #[], none⟩) (v := .agg #[.int .u8 3, .int .u64 0, .int .i64 0, .int .u32 201326592, .int .u8 24, .int .u16 1, .int .u16 65535]) rfl (by kernel_rfl) (by kernel_rfl) (by kernel_rfl) (fun _ _ _ h => h) (Or.inl ⟨by rfl, fun w hSw => by obtain ⟨m0, m1, m2, m3, m4, m5, m6, -⟩ := row7 (brow hSw (brow HB.out HBM.out)); have hml := (Array.getElem?_eq_some_iff.1 (brow hSw (brow HB.out HBM.out))).1; go_simp⟩) (by assumption) ?_
                try simp only [Act.put, List.setIfInBounds_toArray, List.set_cons_zero, List.set_cons_succ]
                refine wpAnyH_take (i := 6) (oi := ⟨some 148, .binOp .eql 32 (.tmp 146) (.tmp 147) 32, 4, "law.go:166", #[⟨4, .data⟩, ⟨5, .data⟩], none⟩) (v := .bool false) rfl (by kernel_rfl) (by kernel_rfl) (by kernel_rfl) (fun _ _ _ h => h) (Or.inl ⟨by rfl, fun w hSw => by have hp9 := HPO.out; go_simp⟩) (by assumption) ?_
                try simp only [Act.put, List.setIfInBounds_toArray, List.set_cons_zero, List.set_cons_succ]
                refine wpAnyH_take (i := 7) (oi := ⟨some 149, .move (.tmp 148), 4, "law.go:166", #[⟨6, .data⟩], none⟩) (v := .bool false) rfl (by kernel_rfl) (by kernel_rfl) (by kernel_rfl) (fun _ _ _ h => h) (Or.inl ⟨by rfl, fun w hSw => by go_simp⟩) (by assumption) ?_
                try simp only [Act.put, List.setIfInBounds_toArray, List.set_cons_zero, List.set_cons_succ]
                refine wpAnyH_take (i := 8) (oi := ⟨some 150, .fieldAddr 36 (.tmp 15) 1, 0, "law.go:166", #[⟨7, .guard⟩], some (7, false)⟩) (v := .pointer (some ⟨by9, 1, none⟩)) rfl (by kernel_rfl) (by kernel_rfl) (by kernel_rfl) (fun _ _ _ h => h) (Or.inl ⟨by rfl, fun w hSw => by go_simp⟩) (by assumption) ?_
                try simp only [Act.put, List.setIfInBounds_toArray, List.set_cons_zero, List.set_cons_succ]
                refine wpAnyH_take (i := 9) (oi := ⟨some 151, .load 34 (.tmp 150), 34, "law.go:166", #[⟨8, .data⟩, ⟨7, .guard⟩], some (7, false)⟩) (v := .slice (some ⟨g7, 0, none⟩) 5 c7) rfl (by kernel_rfl) (by kernel_rfl) (by kernel_rfl) (fun _ _ _ h => h) (Or.inl ⟨by rfl, fun w hSw => by obtain ⟨d0, d1, -⟩ := row2 (brow hSw (brow HB.out HBY.out)); have hbl := (Array.getElem?_eq_some_iff.1 (brow hSw (brow HB.out HBY.out))).1; go_simp⟩) (by assumption) ?_
                try simp only [Act.put, List.setIfInBounds_toArray, List.set_cons_zero, List.set_cons_succ]
                refine wpAnyH_take (i := 10) (oi := ⟨some 152, .move (.tmp 21), 3, "law.go:166", #[⟨7, .guard⟩], some (7, false)⟩) (v := .int .i64 (i : Int)) rfl (by kernel_rfl) (by kernel_rfl) (by kernel_rfl) (fun _ _ _ h => h) (Or.inl ⟨by rfl, fun w hSw => by go_simp⟩) (by assumption) ?_
                try simp only [Act.put, List.setIfInBounds_toArray, List.set_cons_zero, List.set_cons_succ]
                refine wpAnyH_take (i := 11) (oi := ⟨some 153, .indexAddr 34 (.tmp 151) (.tmp 152), 0, "law.go:166", #[⟨9, .data⟩, ⟨10, .data⟩, ⟨7, .guard⟩], some (7, false)⟩) (v := .pointer (some ⟨g7, i * 7, none⟩)) rfl (by kernel_rfl) (by kernel_rfl) (by kernel_rfl) (fun _ _ _ h => h) (Or.inl ⟨by rfl, fun w hSw => by go_simp⟩) (by assumption) ?_
                try simp only [Act.put, List.setIfInBounds_toArray, List.set_cons_zero, List.set_cons_succ]
                refine wpAnyH_take (i := 12) (oi := ⟨some 154, .load 32 (.tmp 153), 32, "law.go:166", #[⟨11, .data⟩, ⟨7, .guard⟩], some (7, false)⟩) (v := .agg #[.int .u8 3, .int .u64 0, .int .i64 0, .int .u32 (pa : Int), .int .u8 (pn : Int), .int .u16 0, .int .u16 65535]) rfl (by kernel_rfl) (by kernel_rfl) (by kernel_rfl) (fun _ _ _ h => h) (Or.inl ⟨by rfl, fun w hSw => by have hb := Ser.bcell (HB.out.trans (hSw.mono HB.out.size)); obtain ⟨k0, k1, k2, k3, k4, k5, k6⟩ := HPC.out; have hgl := Nat.lt_of_lt_of_le (Nat.lt_of_lt_of_le HGL.out HB.out.size) hSw.size; rw [← hb.1 _ _ HGL.out] at k0 k1 k2 k3 k4 k5 k6; go_simp⟩) (by assumption) ?_
                try simp only [Act.put, List.setIfInBounds_toArray, List.set_cons_zero, List.set_cons_succ]
                refine wpAnyH_take (i := 13) (oi := ⟨some 155, .load 32 (.tmp 19), 32, "law.go:166", #[⟨7, .guard⟩], some (7, false)⟩) (v := .agg #[.int .u8 3, .int .u64 0, .int .i64 0, .int .u32 (pa : Int), .int .u8 (pn : Int), .int .u16 0, .int .u16 65535]) rfl (by kernel_rfl) (by kernel_rfl) (by kernel_rfl) (fun _ _ _ h => h) (Or.inl ⟨by rfl, fun w hSw => by obtain ⟨m0, m1, m2, m3, m4, m5, m6, -⟩ := row7 (brow hSw (brow HB.out HBT.out)); have hml := (Array.getElem?_eq_some_iff.1 (brow hSw (brow HB.out HBT.out))).1; go_simp⟩) (by assumption) ?_
                try simp only [Act.put, List.setIfInBounds_toArray, List.set_cons_zero, List.set_cons_succ]
                refine wpAnyH_take (i := 14) (oi := ⟨some 156, .binOp .eql 32 (.tmp 154) (.tmp 155) 32, 4, "law.go:166", #[⟨12, .data⟩, ⟨13, .data⟩, ⟨7, .guard⟩], some (7, false)⟩) (v := .bool true) rfl (by kernel_rfl) (by kernel_rfl) (by kernel_rfl) (fun _ _ _ h => h) (Or.inl ⟨by rfl, fun w hSw => by go_simp⟩) (by assumption) ?_
                try simp only [Act.put, List.setIfInBounds_toArray, List.set_cons_zero, List.set_cons_succ]
                refine wpAnyH_take (i := 15) (oi := ⟨some 157, .pick (.tmp 149) (.const (.bool true)) (.tmp 156), 4, "law.go:166", #[⟨7, .data⟩, ⟨14, .data⟩], none⟩) (v := .bool true) rfl (by kernel_rfl) (by kernel_rfl) (by kernel_rfl) (fun _ _ _ h => h) (Or.inl ⟨by rfl, fun w hSw => by go_simp⟩) (by assumption) ?_
                try simp only [Act.put, List.setIfInBounds_toArray, List.set_cons_zero, List.set_cons_succ]
                refine wpAnyH_done (by kernel_rfl) ?_ _
                try unfold NoPanic
                have HD := Lib.hid (HB.out.trans (hHeld.mono HB.out.size))
                clear hHeld
                go_wp2
                go_roundw
                case rel => exact ⟨i + 1, by omega, by omega, by go_num, by go_num, HD⟩
                case measure => simp [intOf]; omega
            · obtain rfl : i = 5 := by omega
              go_wp2
              go_ret
              exact ⟨rfl, H1.out.trans ((HTW8.out.step HB.out).b.mono H1.out.size)⟩
        · have HP := Lib.hid hp
          have hpi : (((now : Int) % 2) == 0) = false := by simp; omega
          clear hp
          have HTF : Hid (∀ w1 W q e rb, LW w1 W q e [(rb, #[.int .u32 (pa : Int), .int .u8 (pn : Int), .bool false, .int .u32 0, .int .u8 0, .int .i64 0, .int .u16 0, .int .u16 0, .int .u16 (s : Int), .int .u16 ((x : Int) + 96)], 62)] → (Met 96 96 e ∧ e.he = 0 ∧ e.rq = [] ∧ e.due = true ∧ e.lost = [(pa, pn)] ∧ e.ch = [oR]) → Calls Tryz.prog 24 #[.pointer (some ⟨q, 0, none⟩), .int .u64 (now : Int), .slice (some ⟨rb, 0, none⟩) 1 1] W fun en w' => ∃ g7 c7 t1 t2, en = .returned (.tuple #[.agg #[.int .i64 0, .slice (some ⟨g7, 0, none⟩) 2 c7], .bool true]) ∧ 2 ≤ c7 ∧ Below w1.heap.size w1 w' ∧ g7 < w'.heap.size ∧ (∀ j (hj : j < ([] ++ [t1, t2]).length), ∀ i, i < 7 → w'.cell? ⟨g7, j * 7 + i, none⟩ = (Pt.cl (([] : List Pt) ++ [t1, t2])[j])[i]?) ∧ ((t1 = mineP ∧ t2 = (⟨3, 0, 0, pa, pn, 0, 65535⟩ : Pt)) ∨ (t1 = (⟨3, 0, 0, pa, pn, 0, 65535⟩ : Pt) ∧ t2 = mineP))) := Lib.hid fun w1 W q e rb h hQ => by
            have hpr : e.upds [(⟨pa, pn, false, 0, 0, 0, 0, 0, s, x + 96⟩ : Rw)] = [mineP, (⟨3, 0, 0, pa, pn, 0, 65535⟩ : Pt)] ∨ e.upds [(⟨pa, pn, false, 0, 0, 0, 0, 0, s, x + 96⟩ : Rw)] = [(⟨3, 0, 0, pa, pn, 0, 65535⟩ : Pt), mineP] := Or.inr (upds_gone hQ.1.id hQ.2.2.2.2.1 hQ.2.2.2.2.2 hpl hpo (⟨pa, pn, false, 0, 0, 0, 0, 0, s, x + 96⟩ : Rw) hpo)
            have htp := tellP_is hQ.1 hQ.2.1 hQ.2.2.1 hQ.2.2.2.1 now [(⟨pa, pn, false, 0, 0, 0, 0, 0, s, x + 96⟩ : Rw)]
            rw [if_neg HP.out] at htp
            have hne : e.tellP now [(⟨pa, pn, false, 0, 0, 0, 0, 0, s, x + 96⟩ : Rw)] ≠ [] := by
              rw [htp]
              rcases hpr with h9 | h9 <;> rw [h9] <;> simp
            have hcast : ((x + 96 : Nat) : Int) = (x : Int) + 96 := by omega
            have hrow : W.heap[rb]? = some (.cells (Rw.cl (⟨pa, pn, false, 0, 0, 0, 0, 0, s, x + 96⟩ : Rw)).toArray 62 (0, 0)) := by
              have h9 := h.row (List.mem_cons_self ..)
              rw [← hcast] at h9
              exact h9
            have hc := tell_lw0 h (by rw [hQ.2.1]; decide) (by rw [hQ.2.2.2.2.1]; exact (show 1 ≤ 400 by decide)) now (some ⟨rb, 0, none⟩) 1 1 [(⟨pa, pn, false, 0, 0, 0, 0, 0, s, x + 96⟩ : Rw)] rfl (by decide) (gsl_row hrow) (Or.inr ⟨rb, _, rfl, List.mem_cons_self ..⟩) hne
            refine hc.mono ?_
            rintro en w' ⟨g, c, rfl, hle, hg, hcs, hL⟩
            rw [hQ.1.id]
            rw [htp] at hle hcs ⊢
            rcases hpr with h9 | h9
            · rw [h9] at hle hcs ⊢
              exact ⟨g, c, _, _, rfl, hle, hL.b, hg, hcs, Or.inl ⟨rfl, rfl⟩⟩
            · rw [h9] at hle hcs ⊢
              exact ⟨g, c, _, _, rfl, hle, hL.b, hg, hcs, Or.inr ⟨rfl, rfl⟩⟩
          go_upto_region 13 with (go_at_call 19; (with_reducible refine (CP.out _).mono ?_); rintro en wg ⟨rfl, hB⟩; have HLg := Lib.hid (HLb.out.step hB); clear hB HLb)
          have HLh := Lib.hid (HLg.out.add #[.int .u32 (pa : Int), .int .u8 (pn : Int), .bool false, .int .u32 0, .int .u8 0, .int .i64 0, .int .u16 0, .int .u16 0, .int .u16 (s : Int), .int .u16 ((x : Int) + 97)] 62)
          have HRBW := Lib.hid HLg.out.b.size
          clear HLg
          generalize World.alloc wg _ = wh at *
          generalize wg.heap.size = rb at *
          have hrow := HLh.out.row (List.mem_cons_self ..)
          have c9 := cell_of_row wh rb 9 _ 62 (0, 0) hrow
          have f9 := frozen_of_row wh rb 9 _ 62 hrow
          have hrl := (Array.getElem?_eq_some_iff.1 hrow).1
          have HLi := Lib.hid (HLh.out.set HRBW.out (fun k hk => by cases hk) 9 (.int .u16 ((x : Int) + 96)))
          clear hrow HLh
          go_upto_region 15 with (fail)
          clear c9 f9 hrl
          generalize World.setCell _ _ _ = wi at *
          go_upto_region 16 with (go_at_call 24; (with_reducible refine (HTF.out _ _ _ _ _ HLi.out HQb.out).mono ?_); rintro en wt ⟨g7, c7, t1, t2, rfl, hc7, hB, hg, hcs, hpr⟩; have HT7 := Lib.hid (And.intro hB (And.intro hg (And.intro hcs hpr))); clear hB hg hcs hpr HLi HTF HQb)
          have BY := (Below.refl wt.heap.size wt).alloc (Nat.le_refl _) (.cells #[.int .i64 0, .slice (some ⟨g7, 0, none⟩) 2 c7] 36)
          have HTW : Hid (TW w1 wt g7 wt.heap.size #[.int .i64 0, .slice (some ⟨g7, 0, none⟩) 2 c7] (wt.alloc (.cells #[.int .i64 0, .slice (some ⟨g7, 0, none⟩) 2 c7] 36))) := Lib.hid ⟨HT7.out.1.trans (BY.mono HT7.out.1.size), ⟨HT7.out.1.size, BY.size⟩, HT7.out.2.1, fun o => (Ser.bcell BY).1 g7 o HT7.out.2.1, heap_alloc_new wt _⟩
          clear BY
          generalize wt.alloc _ = wy at *
          generalize hby : wt.heap.size = by9 at HTW
          have HBY9 := Lib.hid hby
          clear hby
          obtain ⟨d0, d1, -⟩ := row2 HTW.out.y
          have hbl := (Array.getElem?_eq_some_iff.1 HTW.out.y).1
          go_upto_region 23 with (fail)
          clear d0 d1 hbl
          go_upto_region 24 with (go_at_call 25; (with_reducible refine (own_call _).mono ?_); rintro en wz ⟨z, rfl, hS, hR, B⟩; have HTW2 := Lib.hid (HTW.out.step B); obtain ⟨q0, q1, -⟩ := row2 hR; have hzl := (Array.getElem?_eq_some_iff.1 hR).1; clear hS hR B HTW)
          clear q0 q1 hzl
          have BM := (Below.refl wz.heap.size wz).alloc (Nat.le_refl _) (.cells #[.int .u8 3, .int .u64 0, .int .i64 0, .int .u32 201326592, .int .u8 24, .int .u16 1, .int .u16 65535] 32)
          have HTW3 := Lib.hid (HTW2.out.step BM)
          have HM3 := Lib.hid (heap_alloc_new wz (.cells #[.int .u8 3, .int .u64 0, .int .i64 0, .int .u32 201326592, .int .u8 24, .int .u16 1, .int .u16 65535] 32))
          clear BM HTW2
          generalize wz.alloc _ = wm at *
          generalize wz.heap.size = bm at *
          go_upto_region 25 with (go_at_call 19; (with_reducible refine (CP.out _).mono ?_); rintro en wn ⟨rfl, hB⟩; have HTW4 := Lib.hid (HTW3.out.step hB); have HM4 := Lib.hid (brow hB HM3.out); clear hB HTW3 HM3)
          have BM := (Below.refl wn.heap.size wn).alloc (Nat.le_refl _) (.cells #[.int .u8 3, .int .u64 0, .int .i64 0, .int .u32 (pa : Int), .int .u8 (pn : Int), .int .u16 (s : Int), .int .u16 ((x : Int) + 96)] 32)
          have HTW5 := Lib.hid (HTW4.out.step BM)
          have HM5 := Lib.hid (brow BM HM4.out)
          have HR5 := Lib.hid (heap_alloc_new wn (.cells #[.int .u8 3, .int .u64 0, .int .i64 0, .int .u32 (pa : Int), .int .u8 (pn : Int), .int .u16 (s : Int), .int .u16 ((x : Int) + 96)] 32))
          have HBT5 := Lib.hid (And.intro HTW4.out.t.2 (show bm ≠ wn.heap.size from fun e9 => absurd (Array.getElem?_eq_some_iff.1 HM4.out).1 (by rw [e9]; exact Nat.lt_irrefl _)))
          clear BM HTW4 HM4
          generalize wn.alloc _ = wo at *
          generalize wn.heap.size = bt at *
          go_upto_region 27 with (fail)
          go_upto_region 29 with (go_at_call 19; (with_reducible refine (CP.out _).mono ?_); rintro en wq ⟨rfl, hB⟩; have HTW7 := Lib.hid (HTW5.out.step hB); have HM7 := Lib.hid (brow hB HM5.out); have HR7 := Lib.hid (brow hB HR5.out); obtain ⟨k0, k1, k2, k3, k4, k5, k6, kf⟩ := row7 HR7.out; have hrl := (Array.getElem?_eq_some_iff.1 HR7.out).1; clear hB HTW5 HM5 HR5)
          clear k0 k1 k2 k3 k4 k5 k6 kf hrl
          have HM8 := Lib.hid ((fr7 wq bt (.int .u8 3) (.int .u64 0) (.int .i64 0) (.int .u32 (pa : Int)) (.int .u8 (pn : Int)) (.int .u16 0) (.int .u16 65535)).row HM7.out HBT5.out.2)
          have HR8 := Lib.hid (set7 HR7.out (.int .u8 3) (.int .u64 0) (.int .i64 0) (.int .u32 (pa : Int)) (.int .u8 (pn : Int)) (.int .u16 0) (.int .u16 65535))
          have HTW8 := Lib.hid (HTW7.out.set7 HBT5.out.1 HR7.out (.int .u8 3) (.int .u64 0) (.int .i64 0) (.int .u32 (pa : Int)) (.int .u8 (pn : Int)) (.int .u16 0) (.int .u16 65535))
          clear HTW7 HM7 HR7
          generalize World.setCell (World.setCell (World.setCell (World.setCell (World.setCell (World.setCell (World.setCell wq _ _) _ _) _ _) _ _) _ _) _ _) _ _ = wr0 at *
          have HPO : Hid (((pa : Int) == 201326592) = false) := Lib.hid (by simp; omega)
          have HBM := HM8
          have HBT := HR8
          have HBY := Lib.hid HTW8.out.y
          have HGL := Lib.hid (Nat.lt_of_lt_of_le HTW8.out.g HTW8.out.t.2)
          obtain ⟨d0, d1, -⟩ := row2 HBY.out
          have hbl := (Array.getElem?_eq_some_iff.1 HBY.out).1
          go_wp2
          go_loopw [20, 21] (fun nv iv wr => ∃ i : Nat, 0 ≤ i ∧ i ≤ 2 ∧ iv = .int .i64 i ∧ nv = .int .i64 ((i : Int) - 0) ∧ Hid (Below wr0.heap.size wr0 wr)) (fun _ iv _ => 2 - (intOf iv).toNat)
          case atStart => exact ⟨0, by decide, by decide, rfl, rfl, Lib.hid (Below.refl _ _)⟩
          case round =>
            obtain ⟨i, hi0, hi, rfl, rfl, HB⟩ := hrel
            obtain ⟨d0, d1, -⟩ := row2 (brow HB.out HBY.out)
            have hbl := (Array.getElem?_eq_some_iff.1 (brow HB.out HBY.out)).1
            by_cases hlt : i < 2
            · have hcs := HT7.out.2.2.1 i (by simp; omega)
              have htt : ((([] : List Pt) ++ [t1, t2])[i]'(by simp; omega)) = mineP ∨ ((([] : List Pt) ++ [t1, t2])[i]'(by simp; omega)) = (⟨3, 0, 0, pa, pn, 0, 65535⟩ : Pt) := by
                have hii : i = 0 ∨ i = 1 := by omega
                rcases hii with rfl | rfl <;> rcases HT7.out.2.2.2 with ⟨h8, h9⟩ | ⟨h8, h9⟩ <;> subst h8 h9
                · exact Or.inl rfl
                · exact Or.inr rfl
                · exact Or.inr rfl
                · exact Or.inl rfl
              rcases htt with htt | htt
              · rw [htt] at hcs
                have HPC : Hid (PX wr0 g7 (i * 7) 201326592 24 1 65535) := Lib.hid ⟨(HTW8.out.gc _).trans (hcs 0 (by decide)), (HTW8.out.gc _).trans (hcs 1 (by decide)), (HTW8.out.gc _).trans (hcs 2 (by decide)), (HTW8.out.gc _).trans (hcs 3 (by decide)), (HTW8.out.gc _).trans (hcs 4 (by decide)), (HTW8.out.gc _).trans (hcs 5 (by decide)), (HTW8.out.gc _).trans (hcs 6 (by decide))⟩
                clear hcs htt
                unfold PX at HPC
                go_upto_region 33 with (fail)
                clear d0 d1 hbl
                refine wp_region_noPanic ?_
                refine wp_region_held_drew (S := fun y9 : World => Below wr.heap.size wr y9) (by kernel_rfl) ((Below.refl _ _).drew) (fun hHeld => ?_)
                generalize wr.drew = wd at *
                refine wpAnyH_take (i := 0) (oi := ⟨some 142, .fieldAddr 36 (.tmp 15) 1, 0, "law.go:166", #[], none⟩) (v := .pointer (some ⟨by9, 1, none⟩)) rfl (by kernel_rfl) (by kernel_rfl) (by kernel_rfl) (fun _ _ _ h => h) (Or.inl ⟨by rfl, fun w hSw => by go_simp⟩) (by assumption) ?_
                try simp only [Act.put, List.setIfInBounds_toArray, List.set_cons_zero, List.set_cons_succ]
                refine wpAnyH_take (i := 1) (oi := ⟨some 143, .load 34 (.tmp 142), 34, "law.go:166", #[⟨0, .data⟩], none⟩) (v := .slice (some ⟨g7, 0, none⟩) 2 c7) rfl (by kernel_rfl) (by kernel_rfl) (by kernel_rfl) (fun _ _ _ h => h) (Or.inl ⟨by rfl, fun w hSw => by obtain ⟨d0, d1, -⟩ := row2 (brow hSw (brow HB.out HBY.out)); have hbl := (Array.getElem?_eq_some_iff.1 (brow hSw (brow HB.out HBY.out))).1; go_simp⟩) (by assumption) ?_
                try simp only [Act.put, List.setIfInBounds_toArray, List.set_cons_zero, List.set_cons_succ]
                refine wpAnyH_take (i := 2) (oi := ⟨some 144, .move (.tmp 21), 3, "law.go:166", #[], none⟩) (v := .int .i64 (i : Int)) rfl (by kernel_rfl) (by kernel_rfl) (by kernel_rfl) (fun _ _ _ h => h) (Or.inl ⟨by rfl, fun w hSw => by go_simp⟩) (by assumption) ?_
                try simp only [Act.put, List.setIfInBounds_toArray, List.set_cons_zero, List.set_cons_succ]
                refine wpAnyH_take (i := 3) (oi := ⟨some 145, .indexAddr 34 (.tmp 143) (.tmp 144), 0, "law.go:166", #[⟨1, .data⟩, ⟨2, .data⟩], none⟩) (v := .pointer (some ⟨g7, i * 7, none⟩)) rfl (by kernel_rfl) (by kernel_rfl) (by kernel_rfl) (fun _ _ _ h => h) (Or.inl ⟨by rfl, fun w hSw => by go_simp⟩) (by assumption) ?_
                try simp only [Act.put, List.setIfInBounds_toArray, List.set_cons_zero, List.set_cons_succ]
                refine wpAnyH_take (i := 4) (oi := ⟨some 146, .load 32 (.tmp 145), 32, "law.go:166", #[⟨3, .data⟩], none⟩) (v := .agg #[.int .u8 3, .int .u64 0, .int .i64 0, .int .u32 201326592, .int .u8 24, .int .u16 1, .int .u16 65535]) rfl (by kernel_rfl) (by kernel_rfl) (by kernel_rfl) (fun _ _ _ h => h) (Or.inl ⟨by rfl, fun w hSw => by have hb := Ser.bcell (HB.out.trans (hSw.mono HB.out.size)); obtain ⟨k0, k1, k2, k3, k4, k5, k6⟩ := HPC.out; have hgl := Nat.lt_of_lt_of_le (Nat.lt_of_lt_of_le HGL.out HB.out.size) hSw.size; rw [← hb.1 _ _ HGL.out] at k0 k1 k2 k3 k4 k5 k6; go_simp⟩) (by assumption) ?_
                try simp only [Act.put, List.setIfInBounds_toArray, List.set_cons_zero, List.set_cons_succ]
                refine wpAnyH_take (i := 5) (oi := ⟨some 147, .load 32 (.tmp 18), 32, "law.go:166", #[], none⟩) (v := .agg #[.int .u8 3, .int .u64 0, .int .i64 0, .int .u32 201326592, .int .u8 24, .int .u16 1, .int .u16 65535]) rfl (by kernel_rfl) (by kernel_rfl) (by kernel_rfl) (fun _ _ _ h => h) (Or.inl ⟨by rfl, fun w hSw => by obtain ⟨m0, m1, m2, m3, m4, m5, m6, -⟩ := row7 (brow hSw (brow HB.out HBM.out)); have hml := (Array.getElem?_eq_some_iff.1 (brow hSw (brow HB.out HBM.out))).1; go_simp⟩) (by assumption) ?_
                try simp only [Act.put, List.setIfInBounds_toArray, List.set_cons_zero, List.set_cons_succ]
                refine wpAnyH_take (i := 6) (oi := ⟨some 148, .binOp .eql 32 (.tmp 146) (.tmp 147) 32, 4, "law.go:166", #[⟨4, .data⟩, ⟨5, .data⟩], none⟩) (v := .bool true) rfl (by kernel_rfl) (by kernel_rfl) (by kernel_rfl) (fun _ _ _ h => h) (Or.inl ⟨by rfl, fun w hSw => by go_simp⟩) (by assumption) ?_
                try simp only [Act.put, List.setIfInBounds_toArray, List.set_cons_zero, List.set_cons_succ]
                refine wpAnyH_take (i := 7) (oi := ⟨some 149, .move (.tmp 148), 4, "law.go:166", #[⟨6, .data⟩], none⟩) (v := .bool true) rfl (by kernel_rfl) (by kernel_rfl) (by kernel_rfl) (fun _ _ _ h => h) (Or.inl ⟨by rfl, fun w hSw => by go_simp⟩) (by assumption) ?_
                try simp only [Act.put, List.setIfInBounds_toArray, List.set_cons_zero, List.set_cons_succ]
                refine wpAnyH_take (i := 8) (oi := ⟨some 150, .fieldAddr 36 (.tmp 15) 1, 0, "law.go:166", #[⟨7, .guard⟩], some (7, false)⟩) (v := undef) rfl (by kernel_rfl) (by kernel_rfl) (by kernel_rfl) (fun _ _ _ h => h) (Or.inr ⟨by rfl, rfl⟩) (by assumption) ?_
                try simp only [Act.put, List.setIfInBounds_toArray, List.set_cons_zero, List.set_cons_succ]
                refine wpAnyH_take (i := 9) (oi := ⟨some 151, .load 34 (.tmp 150), 34, "law.go:166", #[⟨8, .data⟩, ⟨7, .guard⟩], some (7, false)⟩) (v := undef) rfl (by kernel_rfl) (by kernel_rfl) (by kernel_rfl) (fun _ _ _ h => h) (Or.inr ⟨by rfl, rfl⟩) (by assumption) ?_
                try simp only [Act.put, List.setIfInBounds_toArray, List.set_cons_zero, List.set_cons_succ]
                refine wpAnyH_take (i := 10) (oi := ⟨some 152, .move (.tmp 21), 3, "law.go:166", #[⟨7, .guard⟩], some (7, false)⟩) (v := undef) rfl (by kernel_rfl) (by kernel_rfl) (by kernel_rfl) (fun _ _ _ h => h) (Or.inr ⟨by rfl, rfl⟩) (by assumption) ?_
                try simp only [Act.put, List.setIfInBounds_toArray, List.set_cons_zero, List.set_cons_succ]
                refine wpAnyH_take (i := 11) (oi := ⟨some 153, .indexAddr 34 (.tmp 151) (.tmp 152), 0, "law.go:166", #[⟨9, .data⟩, ⟨10, .data⟩, ⟨7, .guard⟩], some (7, false)⟩) (v := undef) rfl (by kernel_rfl) (by kernel_rfl) (by kernel_rfl) (fun _ _ _ h => h) (Or.inr ⟨by rfl, rfl⟩) (by assumption) ?_
                try simp only [Act.put, List.setIfInBounds_toArray, List.set_cons_zero, List.set_cons_succ]
                refine wpAnyH_take (i := 12) (oi := ⟨some 154, .load 32 (.tmp 153), 32, "law.go:166", #[⟨11, .data⟩, ⟨7, .guard⟩], some (7, false)⟩) (v := undef) rfl (by kernel_rfl) (by kernel_rfl) (by kernel_rfl) (fun _ _ _ h => h) (Or.inr ⟨by rfl, rfl⟩) (by assumption) ?_
                try simp only [Act.put, List.setIfInBounds_toArray, List.set_cons_zero, List.set_cons_succ]
                refine wpAnyH_take (i := 13) (oi := ⟨some 155, .load 32 (.tmp 19), 32, "law.go:166", #[⟨7, .guard⟩], some (7, false)⟩) (v := undef) rfl (by kernel_rfl) (by kernel_rfl) (by kernel_rfl) (fun _ _ _ h => h) (Or.inr ⟨by rfl, rfl⟩) (by assumption) ?_
                try simp only [Act.put, List.setIfInBounds_toArray, List.set_cons_zero, List.set_cons_succ]
                refine wpAnyH_take (i := 14) (oi := ⟨some 156, .binOp .eql 32 (.tmp 154) (.tmp 155) 32, 4, "law.go:166", #[⟨12, .data⟩, ⟨13, .data⟩, ⟨7, .guard⟩], some (7, false)⟩) (v := undef) rfl (by kernel_rfl) (by kernel_rfl) (by kernel_rfl) (fun _ _ _ h => h) (Or.inr ⟨by rfl, rfl⟩) (by assumption) ?_
                try simp only [Act.put, List.setIfInBounds_toArray, List.set_cons_zero, List.set_cons_succ]
                refine wpAnyH_take (i := 15) (oi := ⟨some 157, .pick (.tmp 149) (.const (.bool true)) (.tmp 156), 4, "law.go:166", #[⟨7, .data⟩, ⟨14, .data⟩], none⟩) (v := .bool true) rfl (by kernel_rfl) (by kernel_rfl) (by kernel_rfl) (fun _ _ _ h => h) (Or.inl ⟨by rfl, fun w hSw => by go_simp⟩) (by assumption) ?_
                try simp only [Act.put, List.setIfInBounds_toArray, List.set_cons_zero, List.set_cons_succ]
                refine wpAnyH_done (by kernel_rfl) ?_ _
                try unfold NoPanic
                have HD := Lib.hid (HB.out.trans (hHeld.mono HB.out.size))
                clear hHeld
                go_wp2
                go_roundw
                case rel => exact ⟨i + 1, by omega, by omega, by go_num, by go_num, HD⟩
                case measure => simp [intOf]; omega
              · rw [htt] at hcs
                have hcast : ((x + 96 : Nat) : Int) = (x : Int) + 96 := by omega
                have HPC : Hid (PX wr0 g7 (i * 7) (pa : Int) (pn : Int) 0 65535) := Lib.hid ⟨(HTW8.out.gc _).trans (hcs 0 (by decide)), (HTW8.out.gc _).trans (hcs 1 (by decide)), (HTW8.out.gc _).trans (hcs 2 (by decide)), (HTW8.out.gc _).trans (hcs 3 (by decide)), (HTW8.out.gc _).trans (hcs 4 (by decide)), (HTW8.out.gc _).trans (hcs 5 (by decide)), (HTW8.out.gc _).trans (hcs 6 (by decide))⟩
                clear hcs htt hcast
                unfold PX at HPC
                go_upto_region 33 with (fail)
                clear d0 d1 hbl
                refine wp_region_noPanic ?_
                refine wp_region_held_drew (S := fun y9 : World => Below wr.heap.size wr y9) (by kernel_rfl) ((Below.refl _ _).drew) (fun hHeld => ?_)
                generalize wr.drew = wd at *
                refine wpAnyH_take (i := 0) (oi := ⟨some 142, .fieldAddr 36 (.tmp 15) 1, 0, "law.go:166", #[], none⟩) (v := .pointer (some ⟨by9, 1, none⟩)) rfl (by kernel_rfl) (by kernel_rfl) (by kernel_rfl) (fun _ _ _ h => h) (Or.inl ⟨by rfl, fun w hSw => by go_simp⟩) (by assumption) ?_
                try simp only [Act.put, List.setIfInBounds_toArray, List.set_cons_zero, List.set_cons_succ]
                refine wpAnyH_take (i := 1) (oi := ⟨some 143, .load 34 (.tmp 142), 34, "law.go:166", #[⟨0, .data⟩], none⟩) (v := .slice (some ⟨g7, 0, none⟩) 2 c7) rfl (by kernel_rfl) (by kernel_rfl) (by kernel_rfl) (fun _ _ _ h => h) (Or.inl ⟨by rfl, fun w hSw => by obtain ⟨d0, d1, -⟩ := row2 (brow hSw (brow HB.out HBY.out)); have hbl := (Array.getElem?_eq_some_iff.1 (brow hSw (brow HB.out HBY.out))).1; go_simp⟩) (by assumption) ?_
                try simp only [Act.put, List.setIfInBounds_toArray, List.set_cons_zero, List.set_cons_succ]
                refine wpAnyH_take (i := 2) (oi := ⟨some 144, .move (.tmp 21), 3, "law.go:166", #[], none⟩) (v := .int .i64 (i : Int)) rfl (by kernel_rfl) (by kernel_rfl) (by kernel_rfl) (fun _ _ _ h => h) (Or.inl ⟨by rfl, fun w hSw => by go_simp⟩) (by assumption) ?_
                try simp only [Act.put, List.setIfInBounds_toArray, List.set_cons_zero, List.set_cons_succ]
                refine wpAnyH_take (i := 3) (oi := ⟨some 145, .indexAddr 34 (.tmp 143) (.tmp 144), 0, "law.go:166", #[⟨1, .data⟩, ⟨2, .data⟩], none⟩) (v := .pointer (some ⟨g7, i * 7, none⟩)) rfl (by kernel_rfl) (by kernel_rfl) (by kernel_rfl) (fun _ _ _ h => h) (Or.inl ⟨by rfl, fun w hSw => by go_simp⟩) (by assumption) ?_
                try simp only [Act.put, List.setIfInBounds_toArray, List.set_cons_zero, List.set_cons_succ]
                refine wpAnyH_take (i := 4) (oi := ⟨some 146, .load 32 (.tmp 145), 32, "law.go:166", #[⟨3, .data⟩], none⟩) (v := .agg #[.int .u8 3, .int .u64 0, .int .i64 0, .int .u32 (pa : Int), .int .u8 (pn : Int), .int .u16 0, .int .u16 65535]) rfl (by kernel_rfl) (by kernel_rfl) (by kernel_rfl) (fun _ _ _ h => h) (Or.inl ⟨by rfl, fun w hSw => by have hb := Ser.bcell (HB.out.trans (hSw.mono HB.out.size)); obtain ⟨k0, k1, k2, k3, k4, k5, k6⟩ := HPC.out; have hgl := Nat.lt_of_lt_of_le (Nat.lt_of_lt_of_le HGL.out HB.out.size) hSw.size; rw [← hb.1 _ _ HGL.out] at k0 k1 k2 k3 k4 k5 k6; go_simp⟩) (by assumption) ?_
                try simp only [Act.put, List.setIfInBounds_toArray, List.set_cons_zero, List.set_cons_succ]
                refine wpAnyH_take (i := 5) (oi := ⟨some 147, .load 32 (.tmp 18), 32, "law.go:166", #[], none⟩) (v := .agg #[.int .u8 3, .int .u64 0, .int .i64 0, .int .u32 201326592, .int .u8 24, .int .u16 1, .int .u16 65535]) rfl (by kernel_rfl) (by kernel_rfl) (by kernel_rfl) (fun _ _ _ h => h) (Or.inl ⟨by rfl, fun w hSw => by obtain ⟨m0, m1, m2, m3, m4, m5, m6, -⟩ := row7 (brow hSw (brow HB.out HBM.out)); have hml := (Array.getElem?_eq_some_iff.1 (brow hSw (brow HB.out HBM.out))).1; go_simp⟩) (by assumption) ?_
                try simp only [Act.put, List.setIfInBounds_toArray, List.set_cons_zero, List.set_cons_succ]
                refine wpAnyH_take (i := 6) (oi := ⟨some 148, .binOp .eql 32 (.tmp 146) (.tmp 147) 32, 4, "law.go:166", #[⟨4, .data⟩, ⟨5, .data⟩], none⟩) (v := .bool false) rfl (by kernel_rfl) (by kernel_rfl) (by kernel_rfl) (fun _ _ _ h => h) (Or.inl ⟨by rfl, fun w hSw => by have hp9 := HPO.out; go_simp⟩) (by assumption) ?_
                try simp only [Act.put, List.setIfInBounds_toArray, List.set_cons_zero, List.set_cons_succ]
                refine wpAnyH_take (i := 7) (oi := ⟨some 149, .move (.tmp 148), 4, "law.go:166", #[⟨6, .data⟩], none⟩) (v := .bool false) rfl (by kernel_rfl) (by kernel_rfl) (by kernel_rfl) (fun _ _ _ h => h) (Or.inl ⟨by rfl, fun w hSw => by go_simp⟩) (by assumption) ?_
                try simp only [Act.put, List.setIfInBounds_toArray, List.set_cons_zero, List.set_cons_succ]
                refine wpAnyH_take (i := 8) (oi := ⟨some 150, .fieldAddr 36 (.tmp 15) 1, 0, "law.go:166", #[⟨7, .guard⟩], some (7, false)⟩) (v := .pointer (some ⟨by9, 1, none⟩)) rfl (by kernel_rfl) (by kernel_rfl) (by kernel_rfl) (fun _ _ _ h => h) (Or.inl ⟨by rfl, fun w hSw => by go_simp⟩) (by assumption) ?_
                try simp only [Act.put, List.setIfInBounds_toArray, List.set_cons_zero, List.set_cons_succ]
                refine wpAnyH_take (i := 9) (oi := ⟨some 151, .load 34 (.tmp 150), 34, "law.go:166", #[⟨8, .data⟩, ⟨7, .guard⟩], some (7, false)⟩) (v := .slice (some ⟨g7, 0, none⟩) 2 c7) rfl (by kernel_rfl) (by kernel_rfl) (by kernel_rfl) (fun _ _ _ h => h) (Or.inl ⟨by rfl, fun w hSw => by obtain ⟨d0, d1, -⟩ := row2 (brow hSw (brow HB.out HBY.out)); have hbl := (Array.getElem?_eq_some_iff.1 (brow hSw (brow HB.out HBY.out))).1; go_simp⟩) (by assumption) ?_
                try simp only [Act.put, List.setIfInBounds_toArray, List.set_cons_zero, List.set_cons_succ]
                refine wpAnyH_take (i := 10) (oi := ⟨some 152, .move (.tmp 21), 3, "law.go:166", #[⟨7, .guard⟩], some (7, false)⟩) (v := .int .i64 (i : Int)) rfl (by kernel_rfl) (by kernel_rfl) (by kernel_rfl) (fun _ _ _ h => h) (Or.inl ⟨by rfl, fun w hSw => by go_simp⟩) (by assumption) ?_
                try simp only [Act.put, List.setIfInBounds_toArray, List.set_cons_zero, List.set_cons_succ]
                refine wpAnyH_take (i := 11) (oi := ⟨some 153, .indexAddr 34 (.tmp 151) (.tmp 152), 0, "law.go:166", #[⟨9, .data⟩, ⟨10, .data⟩, ⟨7, .guard⟩], some (7, false)⟩) (v := .pointer (some ⟨g7, i * 7, none⟩)) rfl (by kernel_rfl) (by kernel_rfl) (by kernel_rfl) (fun _ _ _ h => h) (Or.inl ⟨by rfl, fun w hSw => by go_simp⟩) (by assumption) ?_
                try simp only [Act.put, List.setIfInBounds_toArray, List.set_cons_zero, List.set_cons_succ]
                refine wpAnyH_take (i := 12) (oi := ⟨some 154, .load 32 (.tmp 153), 32, "law.go:166", #[⟨11, .data⟩, ⟨7, .guard⟩], some (7, false)⟩) (v := .agg #[.int .u8 3, .int .u64 0, .int .i64 0, .int .u32 (pa : Int), .int .u8 (pn : Int), .int .u16 0, .int .u16 65535]) rfl (by kernel_rfl) (by kernel_rfl) (by kernel_rfl) (fun _ _ _ h => h) (Or.inl ⟨by rfl, fun w hSw => by have hb := Ser.bcell (HB.out.trans (hSw.mono HB.out.size)); obtain ⟨k0, k1, k2, k3, k4, k5, k6⟩ := HPC.out; have hgl := Nat.lt_of_lt_of_le (Nat.lt_of_lt_of_le HGL.out HB.out.size) hSw.size; rw [← hb.1 _ _ HGL.out] at k0 k1 k2 k3 k4 k5 k6; go_simp⟩) (by assumption) ?_
                try simp only [Act.put, List.setIfInBounds_toArray, List.set_cons_zero, List.set_cons_succ]
                refine wpAnyH_take (i := 13) (oi := ⟨some 155, .load 32 (.tmp 19), 32, "law.go:166", #[⟨7, .guard⟩], some (7, false)⟩) (v := .agg #[.int .u8 3, .int .u64 0, .int .i64 0, .int .u32 (pa : Int), .int .u8 (pn : Int), .int .u16 0, .int .u16 65535]) rfl (by kernel_rfl) (by kernel_rfl) (by kernel_rfl) (fun _ _ _ h => h) (Or.inl ⟨by rfl, fun w hSw => by obtain ⟨m0, m1, m2, m3, m4, m5, m6, -⟩ := row7 (brow hSw (brow HB.out HBT.out)); have hml := (Array.getElem?_eq_some_iff.1 (brow hSw (brow HB.out HBT.out))).1; go_simp⟩) (by assumption) ?_
                try simp only [Act.put, List.setIfInBounds_toArray, List.set_cons_zero, List.set_cons_succ]
                refine wpAnyH_take (i := 14) (oi := ⟨some 156, .binOp .eql 32 (.tmp 154) (.tmp 155) 32, 4, "law.go:166", #[⟨12, .data⟩, ⟨13, .data⟩, ⟨7, .guard⟩], some (7, false)⟩) (v := .bool true) rfl (by kernel_rfl) (by kernel_rfl) (by kernel_rfl) (fun _ _ _ h => h) (Or.inl ⟨by rfl, fun w hSw => by go_simp⟩) (by assumption) ?_
                try simp only [Act.put, List.setIfInBounds_toArray, List.set_cons_zero, List.set_cons_succ]
                refine wpAnyH_take (i := 15) (oi := ⟨some 157, .pick (.tmp 149) (.const (.bool true)) (.tmp 156), 4, "law.go:166", #[⟨7, .data⟩, ⟨14, .data⟩], none⟩) (v := .bool true) rfl (by kernel_rfl) (by kernel_rfl) (by kernel_rfl) (fun _ _ _ h => h) (Or.inl ⟨by rfl, fun w hSw => by go_simp⟩) (by assumption) ?_
                try simp only [Act.put, List.setIfInBounds_toArray, List.set_cons_zero, List.set_cons_succ]
                refine wpAnyH_done (by kernel_rfl) ?_ _
                try unfold NoPanic
                have HD := Lib.hid (HB.out.trans (hHeld.mono HB.out.size))
                clear hHeld
                go_wp2
                go_roundw
                case rel => exact ⟨i + 1, by omega, by omega, by go_num, by go_num, HD⟩
                case measure => simp [intOf]; omega
            · obtain rfl : i = 2 := by omega
              go_wp2
              go_ret
              exact ⟨rfl, H1.out.trans ((HTW8.out.step HB.out).b.mono H1.out.size)⟩
      | false =>
        by_cases hp : now % 2 = 0
        · have HP := Lib.hid hp
          have hpi : (((now : Int) % 2) == 0) = true := by simp; omega
          clear hp
          have HTF : Hid (∀ w1 W q e rb, LW w1 W q e [(rb, #[.int .u32 (pa : Int), .int .u8 (pn : Int), .bool false, .int .u32 0, .int .u8 0, .int .i64 0, .int .u16 0, .int .u16 0, .int .u16 (s : Int), .int .u16 ((x : Int) + 97)], 62)] → (Met 96 96 e ∧ e.he = 0 ∧ e.rq = [] ∧ e.due = true ∧ e.lost = [(pa, pn)] ∧ e.ch = [oR]) → Calls Tryz.prog 24 #[.pointer (some ⟨q, 0, none⟩), .int .u64 (now : Int), .slice (some ⟨rb, 0, none⟩) 1 1] W fun en w' => ∃ g7 c7 t1 t2, en = .returned (.tuple #[.agg #[.int .i64 0, .slice (some ⟨g7, 0, none⟩) 5 c7], .bool true]) ∧ 5 ≤ c7 ∧ Below w1.heap.size w1 w' ∧ g7 < w'.heap.size ∧ (∀ j (hj : j < (hP ++ [t1, t2]).length), ∀ i, i < 7 → w'.cell? ⟨g7, j * 7 + i, none⟩ = (Pt.cl ((hP : List Pt) ++ [t1, t2])[j])[i]?) ∧ ((t1 = mineP ∧ t2 = (⟨3, 0, 0, pa, pn, 0, 65535⟩ : Pt)) ∨ (t1 = (⟨3, 0, 0, pa, pn, 0, 65535⟩ : Pt) ∧ t2 = mineP))) := Lib.hid fun w1 W q e rb h hQ => by
            have hpr : e.upds [(⟨pa, pn, false, 0, 0, 0, 0, 0, s, x + 97⟩ : Rw)] = [mineP, (⟨3, 0, 0, pa, pn, 0, 65535⟩ : Pt)] ∨ e.upds [(⟨pa, pn, false, 0, 0, 0, 0, 0, s, x + 97⟩ : Rw)] = [(⟨3, 0, 0, pa, pn, 0, 65535⟩ : Pt), mineP] := Or.inr (upds_gone hQ.1.id hQ.2.2.2.2.1 hQ.2.2.2.2.2 hpl hpo (⟨pa, pn, false, 0, 0, 0, 0, 0, s, x + 97⟩ : Rw) hpo)
            have htp := tellP_is hQ.1 hQ.2.1 hQ.2.2.1 hQ.2.2.2.1 now [(⟨pa, pn, false, 0, 0, 0, 0, 0, s, x + 97⟩ : Rw)]
            rw [if_pos HP.out] at htp
            have hne : e.tellP now [(⟨pa, pn, false, 0, 0, 0, 0, 0, s, x + 97⟩ : Rw)] ≠ [] := by
              rw [htp]
              rcases hpr with h9 | h9 <;> rw [h9] <;> simp
            have hcast : ((x + 97 : Nat) : Int) = (x : Int) + 97 := by omega
            have hrow : W.heap[rb]? = some (.cells (Rw.cl (⟨pa, pn, false, 0, 0, 0, 0, 0, s, x + 97⟩ : Rw)).toArray 62 (0, 0)) := by
              have h9 := h.row (List.mem_cons_self ..)
              rw [← hcast] at h9
              exact h9
            have hc := tell_lw0 h (by rw [hQ.2.1]; decide) (by rw [hQ.2.2.2.2.1]; exact (show 1 ≤ 400 by decide)) now (some ⟨rb, 0, none⟩) 1 1 [(⟨pa, pn, false, 0, 0, 0, 0, 0, s, x + 97⟩ : Rw)] rfl (by decide) (gsl_row hrow) (Or.inr ⟨rb, _, rfl, List.mem_cons_self ..⟩) hne
            refine hc.mono ?_
            rintro en w' ⟨g, c, rfl, hle, hg, hcs, hL⟩
            rw [hQ.1.id]
            rw [htp] at hle hcs ⊢
            rcases hpr with h9 | h9
            · rw [h9] at hle hcs ⊢
              exact ⟨g, c, _, _, rfl, hle, hL.b, hg, hcs, Or.inl ⟨rfl, rfl⟩⟩
            · rw [h9] at hle hcs ⊢
              exact ⟨g, c, _, _, rfl, hle, hL.b, hg, hcs, Or.inr ⟨rfl, rfl⟩⟩
          go_upto_region 13 with (go_at_call 19; (with_reducible refine (CP.out _).mono ?_); rintro en wg ⟨rfl, hB⟩; have HLg := Lib.hid (HLb.out.step hB); clear hB HLb)
          have HLh := Lib.hid (HLg.out.add #[.int .u32 (pa : Int), .int .u8 (pn : Int), .bool false, .int .u32 0, .int .u8 0, .int .i64 0, .int .u16 0, .int .u16 0, .int .u16 (s : Int), .int .u16 ((x : Int) + 97)] 62)
          have HRBW := Lib.hid HLg.out.b.size
          clear HLg
          generalize World.alloc wg _ = wh at *
          generalize wg.heap.size = rb at *
          go_upto_region 15 with (fail)
          have HLi := HLh
          clear HLh
          go_upto_region 16 with (go_at_call 24; (with_reducible refine (HTF.out _ _ _ _ _ HLi.out HQb.out).mono ?_); rintro en wt ⟨g7, c7, t1, t2, rfl, hc7, hB, hg, hcs, hpr⟩; have HT7 := Lib.hid (And.intro hB (And.intro hg (And.intro hcs hpr))); clear hB hg hcs hpr HLi HTF HQb)
          have BY := (Below.refl wt.heap.size wt).alloc (Nat.le_refl _) (.cells #[.int .i64 0, .slice (some ⟨g7, 0, none⟩) 5 c7] 36)
          have HTW : Hid (TW w1 wt g7 wt.heap.size #[.int .i64 0, .slice (some ⟨g7, 0, none⟩) 5 c7] (wt.alloc (.cells #[.int .i64 0, .slice (some ⟨g7, 0, none⟩) 5 c7] 36))) := Lib.hid ⟨HT7.out.1.trans (BY.mono HT7.out.1.size), ⟨HT7.out.1.size, BY.size⟩, HT7.out.2.1, fun o => (Ser.bcell BY).1 g7 o HT7.out.2.1, heap_alloc_new wt _⟩
          clear BY
          generalize wt.alloc _ = wy at *
          generalize hby : wt.heap.size = by9 at HTW
          have HBY9 := Lib.hid hby
          clear hby
          obtain ⟨d0, d1, -⟩ := row2 HTW.out.y
          have hbl := (Array.getElem?_eq_some_iff.1 HTW.out.y).1
          have hgl := Nat.lt_of_lt_of_le HTW.out.g HTW.out.t.2
          have p0 : wy.cell? ⟨g7, 0, none⟩ = some (.int .u8 1) := (HTW.out.gc 0).trans (HT7.out.2.2.1 0 (by simp [hP]) 0 (by decide))
          have p7 : wy.cell? ⟨g7, 7, none⟩ = some (.int .u8 2) := (HTW.out.gc 7).trans (HT7.out.2.2.1 1 (by simp [hP]) 0 (by decide))
          have p8 : wy.cell? ⟨g7, 8, none⟩ = some (.int .u64 0) := (HTW.out.gc 8).trans (HT7.out.2.2.1 1 (by simp [hP]) 1 (by decide))
          have p9 : wy.cell? ⟨g7, 9, none⟩ = some (.int .i64 1) := (HTW.out.gc 9).trans (HT7.out.2.2.1 1 (by simp [hP]) 2 (by decide))
          have p10 : wy.cell? ⟨g7, 10, none⟩ = some (.int .u32 0) := (HTW.out.gc 10).trans (HT7.out.2.2.1 1 (by simp [hP]) 3 (by decide))
          have p11 : wy.cell? ⟨g7, 11, none⟩ = some (.int .u8 0) := (HTW.out.gc 11).trans (HT7.out.2.2.1 1 (by simp [hP]) 4 (by decide))
          have p12 : wy.cell? ⟨g7, 12, none⟩ = some (.int .u16 0) := (HTW.out.gc 12).trans (HT7.out.2.2.1 1 (by simp [hP]) 5 (by decide))
          have p13 : wy.cell? ⟨g7, 13, none⟩ = some (.int .u16 96) := (HTW.out.gc 13).trans (HT7.out.2.2.1 1 (by simp [hP]) 6 (by decide))
          have p14 : wy.cell? ⟨g7, 14, none⟩ = some (.int .u8 2) := (HTW.out.gc 14).trans (HT7.out.2.2.1 2 (by simp [hP]) 0 (by decide))
          have p15 : wy.cell? ⟨g7, 15, none⟩ = some (.int .u64 0) := (HTW.out.gc 15).trans (HT7.out.2.2.1 2 (by simp [hP]) 1 (by decide))
          have p16 : wy.cell? ⟨g7, 16, none⟩ = some (.int .i64 2) := (HTW.out.gc 16).trans (HT7.out.2.2.1 2 (by simp [hP]) 2 (by decide))
          have p17 : wy.cell? ⟨g7, 17, none⟩ = some (.int .u32 0) := (HTW.out.gc 17).trans (HT7.out.2.2.1 2 (by simp [hP]) 3 (by decide))
          have p18 : wy.cell? ⟨g7, 18, none⟩ = some (.int .u8 0) := (HTW.out.gc 18).trans (HT7.out.2.2.1 2 (by simp [hP]) 4 (by decide))
          have p19 : wy.cell? ⟨g7, 19, none⟩ = some (.int .u16 0) := (HTW.out.gc 19).trans (HT7.out.2.2.1 2 (by simp [hP]) 5 (by decide))
          have p20 : wy.cell? ⟨g7, 20, none⟩ = some (.int .u16 96) := (HTW.out.gc 20).trans (HT7.out.2.2.1 2 (by simp [hP]) 6 (by decide))
          go_upto_region 23 with (fail)
          clear d0 d1 hbl p0 hgl p7 p8 p9 p10 p11 p12 p13 p14 p15 p16 p17 p18 p19 p20
          go_upto_region 24 with (go_at_call 25; (with_reducible refine (own_call _).mono ?_); rintro en wz ⟨z, rfl, hS, hR, B⟩; have HTW2 := Lib.hid (HTW.out.step B); obtain ⟨q0, q1, -⟩ := row2 hR; have hzl := (Array.getElem?_eq_some_iff.1 hR).1; clear hS hR B HTW)
          clear q0 q1 hzl
          have BM := (Below.refl wz.heap.size wz).alloc (Nat.le_refl _) (.cells #[.int .u8 3, .int .u64 0, .int .i64 0, .int .u32 201326592, .int .u8 24, .int .u16 1, .int .u16 65535] 32)
          have HTW3 := Lib.hid (HTW2.out.step BM)
          have HM3 := Lib.hid (heap_alloc_new wz (.cells #[.int .u8 3, .int .u64 0, .int .i64 0, .int .u32 201326592, .int .u8 24, .int .u16 1, .int .u16 65535] 32))
          clear BM HTW2
          generalize wz.alloc _ = wm at *
          generalize wz.heap.size = bm at *
          go_upto_region 25 with (go_at_call 19; (with_reducible refine (CP.out _).mono ?_); rintro en wn ⟨rfl, hB⟩; have HTW4 := Lib.hid (HTW3.out.step hB); have HM4 := Lib.hid (brow hB HM3.out); clear hB HTW3 HM3)
          have BM := (Below.refl wn.heap.size wn).alloc (Nat.le_refl _) (.cells #[.int .u8 3, .int .u64 0, .int .i64 0, .int .u32 (pa : Int), .int .u8 (pn : Int), .int .u16 (s : Int), .int .u16 ((x : Int) + 96)] 32)
          have HTW5 := Lib.hid (HTW4.out.step BM)
          have HM5 := Lib.hid (brow BM HM4.out)
          have HR5 := Lib.hid (heap_alloc_new wn (.cells #[.int .u8 3, .int .u64 0, .int .i64 0, .int .u32 (pa : Int), .int .u8 (pn : Int), .int .u16 (s : Int), .int .u16 ((x : Int) + 96)] 32))
          have HBT5 := Lib.hid (And.intro HTW4.out.t.2 (show bm ≠ wn.heap.size from fun e9 => absurd (Array.getElem?_eq_some_iff.1 HM4.out).1 (by rw [e9]; exact Nat.lt_irrefl _)))
          clear BM HTW4 HM4
          generalize wn.alloc _ = wo at *
          generalize wn.heap.size = bt at *
          have c6 := cell_of_row wo bt 6 _ 32 (0, 0) HR5.out
          have f6 := frozen_of_row wo bt 6 _ 32 HR5.out
          have hrl := (Array.getElem?_eq_some_iff.1 HR5.out).1
          go_upto_region 27 with (fail)
          clear c6 f6 hrl
          have F6 : Fr (fun k => k = bt) wo (wo.setCell ⟨bt, 6, none⟩ (.int .u16 65535)) := Fr.grown (grown_setCell wo bt 6 _) (fun k e => (Option.some.inj e).symm)
          have HTW6 := Lib.hid (HTW5.out.set HBT5.out.1 HR5.out 6 (.int .u16 65535))
          have HM6 := Lib.hid (F6.row HM5.out HBT5.out.2)
          have HR6 : Hid ((wo.setCell ⟨bt, 6, none⟩ (.int .u16 65535)).heap[bt]? = some (.cells #[.int .u8 3, .int .u64 0, .int .i64 0, .int .u32 (pa : Int), .int .u8 (pn : Int), .int .u16 (s : Int), .int .u16 65535] 32 (0, 0))) := Lib.hid (by have := heap_setCell_same wo bt 6 _ 32 (.int .u16 65535) HR5.out; simpa using this)
          clear F6 HTW5 HM5 HR5
          generalize World.setCell _ _ _ = wp at *
          go_upto_region 29 with (go_at_call 19; (with_reducible refine (CP.out _).mono ?_); rintro en wq ⟨rfl, hB⟩; have HTW7 := Lib.hid (HTW6.out.step hB); have HM7 := Lib.hid (brow hB HM6.out); have HR7 := Lib.hid (brow hB HR6.out); obtain ⟨k0, k1, k2, k3, k4, k5, k6, kf⟩ := row7 HR7.out; have hrl := (Array.getElem?_eq_some_iff.1 HR7.out).1; clear hB HTW6 HM6 HR6)
          clear k0 k1 k2 k3 k4 k5 k6 kf hrl
          have HM8 := Lib.hid ((fr7 wq bt (.int .u8 3) (.int .u64 0) (.int .i64 0) (.int .u32 (pa : Int)) (.int .u8 (pn : Int)) (.int .u16 0) (.int .u16 65535)).row HM7.out HBT5.out.2)
          have HR8 := Lib.hid (set7 HR7.out (.int .u8 3) (.int .u64 0) (.int .i64 0) (.int .u32 (pa : Int)) (.int .u8 (pn : Int)) (.int .u16 0) (.int .u16 65535))
          have HTW8 := Lib.hid (HTW7.out.set7 HBT5.out.1 HR7.out (.int .u8 3) (.int .u64 0) (.int .i64 0) (.int .u32 (pa : Int)) (.int .u8 (pn : Int)) (.int .u16 0) (.int .u16 65535))
          clear HTW7 HM7 HR7
          generalize World.setCell (World.setCell (World.setCell (World.setCell (World.setCell (World.setCell (World.setCell wq _ _) _ _) _ _) _ _) _ _) _ _) _ _ = wr0 at *
          have HPO : Hid (((pa : Int) == 201326592) = false) := Lib.hid (by simp; omega)
          have HBM := HM8
          have HBT := HR8
          have HBY := Lib.hid HTW8.out.y
          have HGL := Lib.hid (Nat.lt_of_lt_of_le HTW8.out.g HTW8.out.t.2)
          obtain ⟨d0, d1, -⟩ := row2 HBY.out
          have hbl := (Array.getElem?_eq_some_iff.1 HBY.out).1
          go_wp2
          go_loopw [20, 21] (fun nv iv wr => ∃ i : Nat, 3 ≤ i ∧ i ≤ 5 ∧ iv = .int .i64 i ∧ nv = .int .i64 ((i : Int) - 3) ∧ Hid (Below wr0.heap.size wr0 wr)) (fun _ iv _ => 5 - (intOf iv).toNat)
          case atStart => exact ⟨3, by decide, by decide, rfl, rfl, Lib.hid (Below.refl _ _)⟩
          case round =>
            obtain ⟨i, hi0, hi, rfl, rfl, HB⟩ := hrel
            obtain ⟨d0, d1, -⟩ := row2 (brow HB.out HBY.out)
            have hbl := (Array.getElem?_eq_some_iff.1 (brow HB.out HBY.out)).1
            by_cases hlt : i < 5
            · have hcs := HT7.out.2.2.1 i (by simp [hP]; omega)
              have htt : (((hP : List Pt) ++ [t1, t2])[i]'(by simp [hP]; omega)) = mineP ∨ (((hP : List Pt) ++ [t1, t2])[i]'(by simp [hP]; omega)) = (⟨3, 0, 0, pa, pn, 0, 65535⟩ : Pt) := by
                have hii : i = 3 ∨ i = 4 := by omega
                rcases hii with rfl | rfl <;> rcases HT7.out.2.2.2 with ⟨h8, h9⟩ | ⟨h8, h9⟩ <;> subst h8 h9
                · exact Or.inl rfl
                · exact Or.inr rfl
                · exact Or.inr rfl
                · exact Or.inl rfl
              rcases htt with htt | htt
              · rw [htt] at hcs
                have HPC : Hid (PX wr0 g7 (i * 7) 201326592 24 1 65535) := Lib.hid ⟨(HTW8.out.gc _).trans (hcs 0 (by decide)), (HTW8.out.gc _).trans (hcs 1 (by decide)), (HTW8.out.gc _).trans (hcs 2 (by decide)), (HTW8.out.gc _).trans (hcs 3 (by decide)), (HTW8.out.gc _).trans (hcs 4 (by decide)), (HTW8.out.gc _).trans (hcs 5 (by decide)), (HTW8.out.gc _).trans (hcs 6 (by decide))⟩
                clear hcs htt
                unfold PX at HPC
                go_upto_region 33 with (fail)
                clear d0 d1 hbl
                refine wp_region_noPanic ?_
                refine wp_region_held_drew (S := fun y9 : World => Below wr.heap.size wr y9) (by kernel_rfl) ((Below.refl _ _).drew) (fun hHeld => ?_)
                generalize wr.drew = wd at *
                refine wpAnyH_take (i := 0) (oi := ⟨some 142, .fieldAddr 36 (.tmp 15) 1, 0, "law.go:166", #[], none⟩) (v := .pointer (some ⟨by9, 1, none⟩)) rfl (by kernel_rfl) (by kernel_rfl) (by kernel_rfl) (fun _ _ _ h => h) (Or.inl ⟨by rfl, fun w hSw => by go_simp⟩) (by assumption) ?_
                try simp only [Act.put, List.setIfInBounds_toArray, List.set_cons_zero, List.set_cons_succ]
                refine wpAnyH_take (i := 1) (oi := ⟨some 143, .load 34 (.tmp 142), 34, "law.go:166", #[⟨0, .data⟩], none⟩) (v := .slice (some ⟨g7, 0, none⟩) 5 c7) rfl (by kernel_rfl) (by kernel_rfl) (by kernel_rfl) (fun _ _ _ h => h) (Or.inl ⟨by rfl, fun w hSw => by obtain ⟨d0, d1, -⟩ := row2 (brow hSw (brow HB.out HBY.out)); have hbl := (Array.getElem?_eq_some_iff.1 (brow hSw (brow HB.out HBY.out))).1; go_simp⟩) (by assumption) ?_
                try simp only [Act.put, List.setIfInBounds_toArray, List.set_cons_zero, List.set_cons_succ]
                refine wpAnyH_take (i := 2) (oi := ⟨some 144, .move (.tmp 21), 3, "law.go:166", #[], none⟩) (v := .int .i64 (i : Int)) rfl (by kernel_rfl) (by kernel_rfl) (by kernel_rfl) (fun _ _ _ h => h) (Or.inl ⟨by rfl, fun w hSw => by go_simp⟩) (by assumption) ?_
                try simp only [Act.put, List.setIfInBounds_toArray, List.set_cons_zero, List.set_cons_succ]
                refine wpAnyH_take (i := 3) (oi := ⟨some 145, .indexAddr 34 (.tmp 143) (.tmp 144), 0, "law.go:166", #[⟨1, .data⟩, ⟨2, .data⟩], none⟩) (v := .pointer (some ⟨g7, i * 7, none⟩)) rfl (by kernel_rfl) (by kernel_rfl) (by kernel_rfl) (fun _ _ _ h => h) (Or.inl ⟨by rfl, fun w hSw => by go_simp⟩) (by assumption) ?_
                try simp only [Act.put, List.setIfInBounds_toArray, List.set_cons_zero, List.set_cons_succ]
                refine wpAnyH_take (i := 4) (oi := ⟨some 146, .load 32 (.tmp 145), 32, "law.go:166", #[⟨3, .data⟩], none⟩) (v := .agg #[.int .u8 3, .int .u64 0, .int .i64 0, .int .u32 201326592, .int .u8 24, .int .u16 1, .int .u16 65535]) rfl (by kernel_rfl) (by kernel_rfl) (by kernel_rfl) (fun _ _ _ h => h) (Or.inl ⟨by rfl, fun w hSw => by have hb := Ser.bcell (HB.out.trans (hSw.mono HB.out.size)); obtain ⟨k0, k1, k2, k3, k4, k5, k6⟩ := HPC.out; have hgl := Nat.lt_of_lt_of_le (Nat.lt_of_lt_of_le HGL.out HB.out.size) hSw.size; rw [← hb.1 _ _ HGL.out] at k0 k1 k2 k3 k4 k5 k6; go_simp⟩) (by assumption) ?_
                try simp only [Act.put, List.setIfInBounds_toArray, List.set_cons_zero, List.set_cons_succ]
                refine wpAnyH_take (i := 5) (oi := ⟨some 147, .load 32 (.tmp 18), 32, "law.go:166", #[], none⟩) (v := .agg #[.int .u8 3, .int .u64 0, .int .i64 0, .int .u32 201326592, .int .u8 24, .int .u16 1, .int .u16 65535]) rfl (by kernel_rfl) (by kernel_rfl) (by kernel_rfl) (fun _ _ _ h => h) (Or.inl ⟨by rfl, fun w hSw => by obtain ⟨m0, m1, m2, m3, m4, m5, m6, -⟩ := row7 (brow hSw (brow HB.out HBM.out)); have hml := (Array.getElem?_eq_some_iff.1 (brow hSw (brow HB.out HBM.out))).1; go_simp⟩) (by assumption) ?_
                try simp only [Act.put, List.setIfInBounds_toArray, List.set_cons_zero, List.set_cons_succ]
                refine wpAnyH_take (i := 6) (oi := ⟨some 148, .binOp .eql 32 (.tmp 146) (.tmp 147) 32, 4, "law.go:166", #[⟨4, .data⟩, ⟨5, .data⟩], none⟩) (v := .bool true) rfl (by kernel_rfl) (by kernel_rfl) (by kernel_rfl) (fun _ _ _ h => h) (Or.inl ⟨by rfl, fun w hSw => by go_simp⟩) (by assumption) ?_
                try simp only [Act.put, List.setIfInBounds_toArray, List.set_cons_zero, List.set_cons_succ]
                refine wpAnyH_take (i := 7) (oi := ⟨some 149, .move (.tmp 148), 4, "law.go:166", #[⟨6, .data⟩], none⟩) (v := .bool true) rfl (by kernel_rfl) (by kernel_rfl) (by kernel_rfl) (fun _ _ _ h => h) (Or.inl ⟨by rfl, fun w hSw => by go_simp⟩) (by assumption) ?_
                try simp only [Act.put, List.setIfInBounds_toArray, List.set_cons_zero, List.set_cons_succ]
                refine wpAnyH_take (i := 8) (oi := ⟨some 150, .fieldAddr 36 (.tmp 15) 1, 0, "law.go:166", #[⟨7, .guard⟩], some (7, false)⟩) (v := undef) rfl (by kernel_rfl) (by kernel_rfl) (by kernel_rfl) (fun _ _ _ h => h) (Or.inr ⟨by rfl, rfl⟩) (by assumption) ?_
                try simp only [Act.put, List.setIfInBounds_toArray, List.set_cons_zero, List.set_cons_succ]
                refine wpAnyH_take (i := 9) (oi := ⟨some 151, .load 34 (.tmp 150), 34, "law.go:166", #[⟨8, .data⟩, ⟨7, .guard⟩], some (7, false)⟩) (v := undef) rfl (by kernel_rfl) (by kernel_rfl) (by kernel_rfl) (fun _ _ _ h => h) (Or.inr ⟨by rfl, rfl⟩) (by assumption) ?_
                try simp only [Act.put, List.setIfInBounds_toArray, List.set_cons_zero, List.set_cons_succ]
                refine wpAnyH_take (i := 10) (oi := ⟨some 152, .move (.tmp 21), 3, "law.go:166", #[⟨7, .guard⟩], some (7, false)⟩) (v := undef) rfl (by kernel_rfl) (by kernel_rfl) (by kernel_rfl) (fun _ _ _ h => h) (Or.inr ⟨by rfl, rfl⟩) (by assumption) ?_
                try simp only [Act.put, List.setIfInBounds_toArray, List.set_cons_zero, List.set_cons_succ]
                refine wpAnyH_take (i := 11) (oi := ⟨some 153, .indexAddr 34 (.tmp 151) (.tmp 152), 0, "law.go:166", #[⟨9, .data⟩, ⟨10, .data⟩, ⟨7, .guard⟩], some (7, false)⟩) (v := undef) rfl (by kernel_rfl) (by kernel_rfl) (by kernel_rfl) (fun _ _ _ h => h) (Or.inr ⟨by rfl, rfl⟩) (by assumption) ?_
                try simp only [Act.put, List.setIfInBounds_toArray, List.set_cons_zero, List.set_cons_succ]
                refine wpAnyH_take (i := 12) (oi := ⟨some 154, .load 32 (.tmp 153), 32, "law.go:166", #[⟨11, .data⟩, ⟨7, .guard⟩], some (7, false)⟩) (v := undef) rfl (by kernel_rfl) (by kernel_rfl) (by kernel_rfl) (fun _ _ _ h => h) (Or.inr ⟨by rfl, rfl⟩) (by assumption) ?_
                try simp only [Act.put, List.setIfInBounds_toArray, List.set_cons_zero, List.set_cons_succ]
                refine wpAnyH_take (i := 13) (oi := ⟨some 155, .load 32 (.tmp 19), 32, "law.go:166", #[⟨7, .guard⟩], some (7, false)⟩) (v := undef) rfl (by kernel_rfl) (by kernel_rfl) (by kernel_rfl) (fun _ _ _ h => h) (Or.inr ⟨by rfl, rfl⟩) (by assumption) ?_
                try simp only [Act.put, List.setIfInBounds_toArray, List.set_cons_zero, List.set_cons_succ]
                refine wpAnyH_take (i := 14) (oi := ⟨some 156, .binOp .eql 32 (.tmp 154) (.tmp 155) 32, 4, "law.go:166", #[⟨12, .data⟩, ⟨13, .data⟩, ⟨7, .guard⟩], some (7, false)⟩) (v := undef) rfl (by kernel_rfl) (by kernel_rfl) (by kernel_rfl) (fun _ _ _ h => h) (Or.inr ⟨by rfl, rfl⟩) (by assumption) ?_
                try simp only [Act.put, List.setIfInBounds_toArray, List.set_cons_zero, List.set_cons_succ]
                refine wpAnyH_take (i := 15) (oi := ⟨some 157, .pick (.tmp 149) (.const (.bool true)) (.tmp 156), 4, "law.go:166", #[⟨7, .data⟩, ⟨14, .data⟩], none⟩) (v := .bool true) rfl (by kernel_rfl) (by kernel_rfl) (by kernel_rfl) (fun _ _ _ h => h) (Or.inl ⟨by rfl, fun w hSw => by go_simp⟩) (by assumption) ?_
                try simp only [Act.put, List.setIfInBounds_toArray, List.set_cons_zero, List.set_cons_succ]
                refine wpAnyH_done (by kernel_rfl) ?_ _
                try unfold NoPanic
                have HD := Lib.hid (HB.out.trans (hHeld.mono HB.out.size))
                clear hHeld
                go_wp2
                go_roundw
                case rel => exact ⟨i + 1, by omega, by omega, by go_num, by go_num, HD⟩
                case measure => simp [intOf]; omega
              · rw [htt] at hcs
                have hcast : ((x + 96 : Nat) : Int) = (x : Int) + 96 := by omega
                have HPC : Hid (PX wr0 g7 (i * 7) (pa : Int) (pn : Int) 0 65535) := Lib.hid ⟨(HTW8.out.gc _).trans (hcs 0 (by decide)), (HTW8.out.gc _).trans (hcs 1 (by decide)), (HTW8.out.gc _).trans (hcs 2 (by decide)), (HTW8.out.gc _).trans (hcs 3 (by decide)), (HTW8.out.gc _).trans (hcs 4 (by decide)), (HTW8.out.gc _).trans (hcs 5 (by decide)), (HTW8.out.gc _).trans (hcs 6 (by decide))⟩
                clear hcs htt hcast
                unfold PX at HPC
                go_upto_region 33 with (fail)
                clear d0 d1 hbl
                refine wp_region_noPanic ?_
                refine wp_region_held_drew (S := fun y9 : World => Below wr.heap.size wr y9) (by kernel_rfl) ((Below.refl _ _).drew) (fun hHeld => ?_)
                generalize wr.drew = wd at *
                refine wpAnyH_take (i := 0) (oi := ⟨some 142, .fieldAddr 36 (.tmp 15) 1, 0, "law.go:166", #[], none⟩) (v := .pointer (some ⟨by9, 1, none⟩)) rfl (by kernel_rfl) (by kernel_rfl) (by kernel_rfl) (fun _ _ _ h => h) (Or.inl ⟨by rfl, fun w hSw => by go_simp⟩) (by assumption) ?_
                try simp only [Act.put, List.setIfInBounds_toArray, List.set_cons_zero, List.set_cons_succ]
                refine wpAnyH_take (i := 1) (oi := ⟨some 143, .load 34 (.tmp 142), 34, "law.go:166", #[⟨0, .data⟩], none⟩) (v := .slice (some ⟨g7, 0, none⟩) 5 c7) rfl (by kernel_rfl) (by kernel_rfl) (by kernel_rfl) (fun _ _ _ h => h) (Or.inl ⟨by rfl, fun w hSw => by obtain ⟨d0, d1, -⟩ := row2 (brow hSw (brow HB.out HBY.out)); have hbl := (Array.getElem?_eq_some_iff.1 (brow hSw (brow HB.out HBY.out))).1; go_simp⟩) (by assumption) ?_
                try simp only [Act.put, List.setIfInBounds_toArray, List.set_cons_zero, List.set_cons_succ]
                refine wpAnyH_take (i := 2) (oi := ⟨some 144, .move (.tmp 21), 3, "law.go:166", #[], none⟩) (v := .int .i64 (i : Int)) rfl (by kernel_rfl) (by kernel_rfl) (by kernel_rfl) (fun _ _ _ h => h) (Or.inl ⟨by rfl, fun w hSw => by go_simp⟩) (by assumption) ?_
                try simp only [Act.put, List.setIfInBounds_toArray, List.set_cons_zero, List.set_cons_succ]
                refine wpAnyH_take (i := 3) (oi := ⟨some 145, .indexAddr 34 (.tmp 143) (.tmp 144), 0, "law.go:166", #[⟨1, .data⟩, ⟨2, .data⟩], none⟩) (v := .pointer (some ⟨g7, i * 7, none⟩)) rfl (by kernel_rfl) (by kernel_rfl) (by kernel_rfl) (fun _ _ _ h => h) (Or.inl ⟨by rfl, fun w hSw => by go_simp⟩) (by assumption) ?_
                try simp only [Act.put, List.setIfInBounds_toArray, List.set_cons_zero, List.set_cons_succ]
                refine wpAnyH_take (i := 4) (oi := ⟨some 146, .load 32 (.tmp 145), 32, "law.go:166", #[⟨3, .data⟩], none⟩) (v := .agg #[.int .u8 3, .int .u64 0, .int .i64 0, .int .u32 (pa : Int), .int .u8 (pn : Int), .int .u16 0, .int .u16 65535]) rfl (by kernel_rfl) (by kernel_rfl) (by kernel_rfl) (fun _ _ _ h => h) (Or.inl ⟨by rfl, fun w hSw => by have hb := Ser.bcell (HB.out.trans (hSw.mono HB.out.size)); obtain ⟨k0, k1, k2, k3, k4, k5, k6⟩ := HPC.out; have hgl := Nat.lt_of_lt_of_le (Nat.lt_of_lt_of_le HGL.out HB.out.size) hSw.size; rw [← hb.1 _ _ HGL.out] at k0 k1 k2 k3 k4 k5 k6; go_simp⟩) (by assumption) ?_
                try simp only [Act.put, List.setIfInBounds_toArray, List.set_cons_zero, List.set_cons_succ]
                refine wpAnyH_take (i := 5) (oi := ⟨some 147, .load 32 (.tmp 18), 32, "law.go:166", #[], none⟩) (v := .agg #[.int .u8 3, .int .u64 0, .int .i64 0, .int .u32 201326592, .int .u8 24, .int .u16 1, .int .u16 65535]) rfl (by kernel_rfl) (by kernel_rfl) (by kernel_rfl) (fun _ _ _ h => h) (Or.inl ⟨by rfl, fun w hSw => by obtain ⟨m0, m1, m2, m3, m4, m5, m6, -⟩ := row7 (brow hSw (brow HB.out HBM.out)); have hml := (Array.getElem?_eq_some_iff.1 (brow hSw (brow HB.out HBM.out))).1; go_simp⟩) (by assumption) ?_
                try simp only [Act.put, List.setIfInBounds_toArray, List.set_cons_zero, List.set_cons_succ]
                refine wpAnyH_take (i := 6) (oi := ⟨some 148, .binOp .eql 32 (.tmp 146) (.tmp 147) 32, 4, "law.go:166", #[⟨4, .data⟩, ⟨5, .data⟩], none⟩) (v := .bool false) rfl (by kernel_rfl) (by kernel_rfl) (by kernel_rfl) (fun _ _ _ h => h) (Or.inl ⟨by rfl, fun w hSw => by have hp9 := HPO.out; go_simp⟩) (by assumption) ?_
                try simp only [Act.put, List.setIfInBounds_toArray, List.set_cons_zero, List.set_cons_succ]
                refine wpAnyH_take (i := 7) (oi := ⟨some 149, .move (.tmp 148), 4, "law.go:166", #[⟨6, .data⟩], none⟩) (v := .bool false) rfl (by kernel_rfl) (by kernel_rfl) (by kernel_rfl) (fun _ _ _ h => h) (Or.inl ⟨by rfl, fun w hSw => by go_simp⟩) (by assumption) ?_
                try simp only [Act.put, List.setIfInBounds_toArray, List.set_cons_zero, List.set_cons_succ]
                refine wpAnyH_take (i := 8) (oi := ⟨some 150, .fieldAddr 36 (.tmp 15) 1, 0, "law.go:166", #[⟨7, .guard⟩], some (7, false)⟩) (v := .pointer (some ⟨by9, 1, none⟩)) rfl (by kernel_rfl) (by kernel_rfl) (by kernel_rfl) (fun _ _ _ h => h) (Or.inl ⟨by rfl, fun w hSw => by go_simp⟩) (by assumption) ?_
                try simp only [Act.put, List.setIfInBounds_toArray, List.set_cons_zero, List.set_cons_succ]
                refine wpAnyH_take (i := 9) (oi := ⟨some 151, .load 34 (.tmp 150), 34, "law.go:166", #[⟨8, .data⟩, ⟨7, .guard⟩], some (7, false)⟩) (v := .slice (some ⟨g7, 0, none⟩) 5 c7) rfl (by kernel_rfl) (by kernel_rfl) (by kernel_rfl) (fun _ _ _ h => h) (Or.inl ⟨by rfl, fun w hSw => by obtain ⟨d0, d1, -⟩ := row2 (brow hSw (brow HB.out HBY.out)); have hbl := (Array.getElem?_eq_some_iff.1 (brow hSw (brow HB.out HBY.out))).1; go_simp⟩) (by assumption) ?_
                try simp only [Act.put, List.setIfInBounds_toArray, List.set_cons_zero, List.set_cons_succ]
                refine wpAnyH_take (i := 10) (oi := ⟨some 152, .move (.tmp 21), 3, "law.go:166", #[⟨7, .guard⟩], some (7, false)⟩) (v := .int .i64 (i : Int)) rfl (by kernel_rfl) (by kernel_rfl) (by kernel_rfl) (fun _ _ _ h => h) (Or.inl ⟨by rfl, fun w hSw => by go_simp⟩) (by assumption) ?_
                try simp only [Act.put, List.setIfInBounds_toArray, List.set_cons_zero, List.set_cons_succ]
                refine wpAnyH_take (i := 11) (oi := ⟨some 153, .indexAddr 34 (.tmp 151) (.tmp 152), 0, "law.go:166", #[⟨9, .data⟩, ⟨10, .data⟩, ⟨7, .guard⟩], some (7, false)⟩) (v := .pointer (some ⟨g7, i * 7, none⟩)) rfl (by kernel_rfl) (by kernel_rfl) (by kernel_rfl) (fun _ _ _ h => h) (Or.inl ⟨by rfl, fun w hSw => by go_simp⟩) (by assumption) ?_
                try simp only [Act.put, List.setIfInBounds_toArray, List.set_cons_zero, List.set_cons_succ]
                refine wpAnyH_take (i := 12) (oi := ⟨some 154, .load 32 (.tmp 153), 32, "law.go:166", #[⟨11, .data⟩, ⟨7, .guard⟩], some (7, false)⟩) (v := .agg #[.int .u8 3, .int .u64 0, .int .i64 0, .int .u32 (pa : Int), .int .u8 (pn : Int), .int .u16 0, .int .u16 65535]) rfl (by kernel_rfl) (by kernel_rfl) (by kernel_rfl) (fun _ _ _ h => h) (Or.inl ⟨by rfl, fun w hSw => by have hb := Ser.bcell (HB.out.trans (hSw.mono HB.out.size)); obtain ⟨k0, k1, k2, k3, k4, k5, k6⟩ := HPC.out; have hgl := Nat.lt_of_lt_of_le (Nat.lt_of_lt_of_le HGL.out HB.out.size) hSw.size; rw [← hb.1 _ _ HGL.out] at k0 k1 k2 k3 k4 k5 k6; go_simp⟩) (by assumption) ?_
                try simp only [Act.put, List.setIfInBounds_toArray, List.set_cons_zero, List.set_cons_succ]
                refine wpAnyH_take (i := 13) (oi := ⟨some 155, .load 32 (.tmp 19), 32, "law.go:166", #[⟨7, .guard⟩], some (7, false)⟩) (v := .agg #[.int .u8 3, .int .u64 0, .int .i64 0, .int .u32 (pa : Int), .int .u8 (pn : Int), .int .u16 0, .int .u16 65535]) rfl (by kernel_rfl) (by kernel_rfl) (by kernel_rfl) (fun _ _ _ h => h) (Or.inl ⟨by rfl, fun w hSw => by obtain ⟨m0, m1, m2, m3, m4, m5, m6, -⟩ := row7 (brow hSw (brow HB.out HBT.out)); have hml := (Array.getElem?_eq_some_iff.1 (brow hSw (brow HB.out HBT.out))).1; go_simp⟩) (by assumption) ?_
                try simp only [Act.put, List.setIfInBounds_toArray, List.set_cons_zero, List.set_cons_succ]
                refine wpAnyH_take (i := 14) (oi := ⟨some 156, .binOp .eql 32 (.tmp 154) (.tmp 155) 32, 4, "law.go:166", #[⟨12, .data⟩, ⟨13, .data⟩, ⟨7, .guard⟩], some (7, false)⟩) (v := .bool true) rfl (by kernel_rfl) (by kernel_rfl) (by kernel_rfl) (fun _ _ _ h => h) (Or.inl ⟨by rfl, fun w hSw => by go_simp⟩) (by assumption) ?_
                try simp only [Act.put, List.setIfInBounds_toArray, List.set_cons_zero, List.set_cons_succ]
                refine wpAnyH_take (i := 15) (oi := ⟨some 157, .pick (.tmp 149) (.const (.bool true)) (.tmp 156), 4, "law.go:166", #[⟨7, .data⟩, ⟨14, .data⟩], none⟩) (v := .bool true) rfl (by kernel_rfl) (by kernel_rfl) (by kernel_rfl) (fun _ _ _ h => h) (Or.inl ⟨by rfl, fun w hSw => by go_simp⟩) (by assumption) ?_
                try simp only [Act.put, List.setIfInBounds_toArray, List.set_cons_zero, List.set_cons_succ]
                refine wpAnyH_done (by kernel_rfl) ?_ _
                try unfold NoPanic
                have HD := Lib.hid (HB.out.trans (hHeld.mono HB.out.size))
                clear hHeld
                go_wp2
                go_roundw
                case rel => exact ⟨i + 1, by omega, by omega, by go_num, by go_num, HD⟩
                case measure => simp [intOf]; omega
            · obtain rfl : i = 5 := by omega
              go_wp2
              go_ret
              exact ⟨rfl, H1.out.trans ((HTW8.out.step HB.out).b.mono H1.out.size)⟩
        · have HP := Lib.hid hp
          have hpi : (((now : Int) % 2) == 0) = false := by simp; omega
          clear hp
          have HTF : Hid (∀ w1 W q e rb, LW w1 W q e [(rb, #[.int .u32 (pa : Int), .int .u8 (pn : Int), .bool false, .int .u32 0, .int .u8 0, .int .i64 0, .int .u16 0, .int .u16 0, .int .u16 (s : Int), .int .u16 ((x : Int) + 97)], 62)] → (Met 96 96 e ∧ e.he = 0 ∧ e.rq = [] ∧ e.due = true ∧ e.lost = [(pa, pn)] ∧ e.ch = [oR]) → Calls Tryz.prog 24 #[.pointer (some ⟨q, 0, none⟩), .int .u64 (now : Int), .slice (some ⟨rb, 0, none⟩) 1 1] W fun en w' => ∃ g7 c7 t1 t2, en = .returned (.tuple #[.agg #[.int .i64 0, .slice (some ⟨g7, 0, none⟩) 2 c7], .bool true]) ∧ 2 ≤ c7 ∧ Below w1.heap.size w1 w' ∧ g7 < w'.heap.size ∧ (∀ j (hj : j < ([] ++ [t1, t2]).length), ∀ i, i < 7 → w'.cell? ⟨g7, j * 7 + i, none⟩ = (Pt.cl (([] : List Pt) ++ [t1, t2])[j])[i]?) ∧ ((t1 = mineP ∧ t2 = (⟨3, 0, 0, pa, pn, 0, 65535⟩ : Pt)) ∨ (t1 = (⟨3, 0, 0, pa, pn, 0, 65535⟩ : Pt) ∧ t2 = mineP))) := Lib.hid fun w1 W q e rb h hQ => by
            have hpr : e.upds [(⟨pa, pn, false, 0, 0, 0, 0, 0, s, x + 97⟩ : Rw)] = [mineP, (⟨3, 0, 0, pa, pn, 0, 65535⟩ : Pt)] ∨ e.upds [(⟨pa, pn, false, 0, 0, 0, 0, 0, s, x + 97⟩ : Rw)] = [(⟨3, 0, 0, pa, pn, 0, 65535⟩ : Pt), mineP] := Or.inr (upds_gone hQ.1.id hQ.2.2.2.2.1 hQ.2.2.2.2.2 hpl hpo (⟨pa, pn, false, 0, 0, 0, 0, 0, s, x + 97⟩ : Rw) hpo)
            have htp := tellP_is hQ.1 hQ.2.1 hQ.2.2.1 hQ.2.2.2.1 now [(⟨pa, pn, false, 0, 0, 0, 0, 0, s, x + 97⟩ : Rw)]
            rw [if_neg HP.out] at htp
            have hne : e.tellP now [(⟨pa, pn, false, 0, 0, 0, 0, 0, s, x + 97⟩ : Rw)] ≠ [] := by
              rw [htp]
              rcases hpr with h9 | h9 <;> rw [h9] <;> simp
            have hcast : ((x + 97 : Nat) : Int) = (x : Int) + 97 := by omega
            have hrow : W.heap[rb]? = some (.cells (Rw.cl (⟨pa, pn, false, 0, 0, 0, 0, 0, s, x + 97⟩ : Rw)).toArray 62 (0, 0)) := by
              have h9 := h.row (List.mem_cons_self ..)
              rw [← hcast] at h9
              exact h9
            have hc := tell_lw0 h (by rw [hQ.2.1]; decide) (by rw [hQ.2.2.2.2.1]; exact (show 1 ≤ 400 by decide)) now (some ⟨rb, 0, none⟩) 1 1 [(⟨pa, pn, false, 0, 0, 0, 0, 0, s, x + 97⟩ : Rw)] rfl (by decide) (gsl_row hrow) (Or.inr ⟨rb, _, rfl, List.mem_cons_self ..⟩) hne
            refine hc.mono ?_
            rintro en w' ⟨g, c, rfl, hle, hg, hcs, hL⟩
            rw [hQ.1.id]
            rw [htp] at hle hcs ⊢
            rcases hpr with h9 | h9
            · rw [h9] at hle hcs ⊢
              exact ⟨g, c, _, _, rfl, hle, hL.b, hg, hcs, Or.inl ⟨rfl, rfl⟩⟩
            · rw [h9] at hle hcs ⊢
              exact ⟨g, c, _, _, rfl, hle, hL.b, hg, hcs, Or.inr ⟨rfl, rfl⟩⟩
          go_upto_region 13 with (go_at_call 19; (with_reducible refine (CP.out _).mono ?_); rintro en wg ⟨rfl, hB⟩; have HLg := Lib.hid (HLb.out.step hB); clear hB HLb)
          have HLh := Lib.hid (HLg.out.add #[.int .u32 (pa : Int), .int .u8 (pn : Int), .bool false, .int .u32 0, .int .u8 0, .int .i64 0, .int .u16 0, .int .u16 0, .int .u16 (s : Int), .int .u16 ((x : Int) + 97)] 62)
          have HRBW := Lib.hid HLg.out.b.size
          clear HLg
          generalize World.alloc wg _ = wh at *
          generalize wg.heap.size = rb at *
          go_upto_region 15 with (fail)
          have HLi := HLh
          clear HLh
          go_upto_region 16 with (go_at_call 24; (with_reducible refine (HTF.out _ _ _ _ _ HLi.out HQb.out).mono ?_); rintro en wt ⟨g7, c7, t1, t2, rfl, hc7, hB, hg, hcs, hpr⟩; have HT7 := Lib.hid (And.intro hB (And.intro hg (And.intro hcs hpr))); clear hB hg hcs hpr HLi HTF HQb)
          have BY := (Below.refl wt.heap.size wt).alloc (Nat.le_refl _) (.cells #[.int .i64 0, .slice (some ⟨g7, 0, none⟩) 2 c7] 36)
          have HTW : Hid (TW w1 wt g7 wt.heap.size #[.int .i64 0, .slice (some ⟨g7, 0, none⟩) 2 c7] (wt.alloc (.cells #[.int .i64 0, .slice (some ⟨g7, 0, none⟩) 2 c7] 36))) := Lib.hid ⟨HT7.out.1.trans (BY.mono HT7.out.1.size), ⟨HT7.out.1.size, BY.size⟩, HT7.out.2.1, fun o => (Ser.bcell BY).1 g7 o HT7.out.2.1, heap_alloc_new wt _⟩
          clear BY
          generalize wt.alloc _ = wy at *
          generalize hby : wt.heap.size = by9 at HTW
          have HBY9 := Lib.hid hby
          clear hby
          obtain ⟨d0, d1, -⟩ := row2 HTW.out.y
          have hbl := (Array.getElem?_eq_some_iff.1 HTW.out.y).1
          go_upto_region 23 with (fail)
          clear d0 d1 hbl
          go_upto_region 24 with (go_at_call 25; (with_reducible refine (own_call _).mono ?_); rintro en wz ⟨z, rfl, hS, hR, B⟩; have HTW2 := Lib.hid (HTW.out.step B); obtain ⟨q0, q1, -⟩ := row2 hR; have hzl := (Array.getElem?_eq_some_iff.1 hR).1; clear hS hR B HTW)
          clear q0 q1 hzl
          have BM := (Below.refl wz.heap.size wz).alloc (Nat.le_refl _) (.cells #[.int .u8 3, .int .u64 0, .int .i64 0, .int .u32 201326592, .int .u8 24, .int .u16 1, .int .u16 65535] 32)
          have HTW3 := Lib.hid (HTW2.out.step BM)
          have HM3 := Lib.hid (heap_alloc_new wz (.cells #[.int .u8 3, .int .u64 0, .int .i64 0, .int .u32 201326592, .int .u8 24, .int .u16 1, .int .u16 65535] 32))
          clear BM HTW2
          generalize wz.alloc _ = wm at *
          generalize wz.heap.size = bm at *
          go_upto_region 25 with (go_at_call 19; (with_reducible refine (CP.out _).mono ?_); rintro en wn ⟨rfl, hB⟩; have HTW4 := Lib.hid (HTW3.out.step hB); have HM4 := Lib.hid (brow hB HM3.out); clear hB HTW3 HM3)
          have BM := (Below.refl wn.heap.size wn).alloc (Nat.le_refl _) (.cells #[.int .u8 3, .int .u64 0, .int .i64 0, .int .u32 (pa : Int), .int .u8 (pn : Int), .int .u16 (s : Int), .int .u16 ((x : Int) + 96)] 32)
          have HTW5 := Lib.hid (HTW4.out.step BM)
          have HM5 := Lib.hid (brow BM HM4.out)
          have HR5 := Lib.hid (heap_alloc_new wn (.cells #[.int .u8 3, .int .u64 0, .int .i64 0, .int .u32 (pa : Int), .int .u8 (pn : Int), .int .u16 (s : Int), .int .u16 ((x : Int) + 96)] 32))
          have HBT5 := Lib.hid (And.intro HTW4.out.t.2 (show bm ≠ wn.heap.size from fun e9 => absurd (Array.getElem?_eq_some_iff.1 HM4.out).1 (by rw [e9]; exact Nat.lt_irrefl _)))
          clear BM HTW4 HM4
          generalize wn.alloc _ = wo at *
          generalize wn.heap.size = bt at *
          have c6 := cell_of_row wo bt 6 _ 32 (0, 0) HR5.out
          have f6 := frozen_of_row wo bt 6 _ 32 HR5.out
          have hrl := (Array.getElem?_eq_some_iff.1 HR5.out).1
          go_upto_region 27 with (fail)
          clear c6 f6 hrl
          have F6 : Fr (fun k => k = bt) wo (wo.setCell ⟨bt, 6, none⟩ (.int .u16 65535)) := Fr.grown (grown_setCell wo bt 6 _) (fun k e => (Option.some.inj e).symm)
          have HTW6 := Lib.hid (HTW5.out.set HBT5.out.1 HR5.out 6 (.int .u16 65535))
          have HM6 := Lib.hid (F6.row HM5.out HBT5.out.2)
          have HR6 : Hid ((wo.setCell ⟨bt, 6, none⟩ (.int .u16 65535)).heap[bt]? = some (.cells #[.int .u8 3, .int .u64 0, .int .i64 0, .int .u32 (pa : Int), .int .u8 (pn : Int), .int .u16 (s : Int), .int .u16 65535] 32 (0, 0))) := Lib.hid (by have := heap_setCell_same wo bt 6 _ 32 (.int .u16 65535) HR5.out; simpa using this)
          clear F6 HTW5 HM5 HR5
          generalize World.setCell _ _ _ = wp at *
          go_upto_region 29 with (go_at_call 19; (with_reducible refine (CP.out _).mono ?_); rintro en wq ⟨rfl, hB⟩; have HTW7 := Lib.hid (HTW6.out.step hB); have HM7 := Lib.hid (brow hB HM6.out); have HR7 := Lib.hid (brow hB HR6.out); obtain ⟨k0, k1, k2, k3, k4, k5, k6, kf⟩ := row7 HR7.out; have hrl := (Array.getElem?_eq_some_iff.1 HR7.out).1; clear hB HTW6 HM6 HR6)
          clear k0 k1 k2 k3 k4 k5 k6 kf hrl
          have HM8 := Lib.hid ((fr7 wq bt (.int .u8 3) (.int .u64 0) (.int .i64 0) (.int .u32 (pa : Int)) (.int .u8 (pn : Int)) (.int .u16 0) (.int .u16 65535)).row HM7.out HBT5.out.2)
          have HR8 := Lib.hid (set7 HR7.out (.int .u8 3) (.int .u64 0) (.int .i64 0) (.int .u32 (pa : Int)) (.int .u8 (pn : Int)) (.int .u16 0) (.int .u16 65535))
          have HTW8 := Lib.hid (HTW7.out.set7 HBT5.out.1 HR7.out (.int .u8 3) (.int .u64 0) (.int .i64 0) (.int .u32 (pa : Int)) (.int .u8 (pn : Int)) (.int .u16 0) (.int .u16 65535))
          clear HTW7 HM7 HR7
          generalize World.setCell (World.setCell (World.setCell (World.setCell (World.setCell (World.setCell (World.setCell wq _ _) _ _) _ _) _ _) _ _) _ _) _ _ = wr0 at *
          have HPO : Hid (((pa : Int) == 201326592) = false) := Lib.hid (by simp; omega)
          have HBM := HM8
          have HBT := HR8
          have HBY := Lib.hid HTW8.out.y
          have HGL := Lib.hid (Nat.lt_of_lt_of_le HTW8.out.g HTW8.out.t.2)
          obtain ⟨d0, d1, -⟩ := row2 HBY.out
          have hbl := (Array.getElem?_eq_some_iff.1 HBY.out).1
          go_wp2
          go_loopw [20, 21] (fun nv iv wr => ∃ i : Nat, 0 ≤ i ∧ i ≤ 2 ∧ iv = .int .i64 i ∧ nv = .int .i64 ((i : Int) - 0) ∧ Hid (Below wr0.heap.size wr0 wr)) (fun _ iv _ => 2 - (intOf iv).toNat)
          case atStart => exact ⟨0, by decide, by decide, rfl, rfl, Lib.hid (Below.refl _ _)⟩
          case round =>
            obtain ⟨i, hi0, hi, rfl, rfl, HB⟩ := hrel
            obtain ⟨d0, d1, -⟩ := row2 (brow HB.out HBY.out)
            have hbl := (Array.getElem?_eq_some_iff.1 (brow HB.out HBY.out)).1
            by_cases hlt : i < 2
            · have hcs := HT7.out.2.2.1 i (by simp; omega)
              have htt : ((([] : List Pt) ++ [t1, t2])[i]'(by simp; omega)) = mineP ∨ ((([] : List Pt) ++ [t1, t2])[i]'(by simp; omega)) = (⟨3, 0, 0, pa, pn, 0, 65535⟩ : Pt) := by
                have hii : i = 0 ∨ i = 1 := by omega
                rcases hii with rfl | rfl <;> rcases HT7.out.2.2.2 with ⟨h8, h9⟩ | ⟨h8, h9⟩ <;> subst h8 h9
                · exact Or.inl rfl
                · exact Or.inr rfl
                · exact Or.inr rfl
                · exact Or.inl rfl
              rcases htt with htt | htt
              · rw [htt] at hcs
                have HPC : Hid (PX wr0 g7 (i * 7) 201326592 24 1 65535) := Lib.hid ⟨(HTW8.out.gc _).trans (hcs 0 (by decide)), (HTW8.out.gc _).trans (hcs 1 (by decide)), (HTW8.out.gc _).trans (hcs 2 (by decide)), (HTW8.out.gc _).trans (hcs 3 (by decide)), (HTW8.out.gc _).trans (hcs 4 (by decide)), (HTW8.out.gc _).trans (hcs 5 (by decide)), (HTW8.out.gc _).trans (hcs 6 (by decide))⟩
                clear hcs htt
                unfold PX at HPC
                go_upto_region 33 with (fail)
                clear d0 d1 hbl
                refine wp_region_noPanic ?_
                refine wp_region_held_drew (S := fun y9 : World => Below wr.heap.size wr y9) (by kernel_rfl) ((Below.refl _ _).drew) (fun hHeld => ?_)
                generalize wr.drew = wd at *
                refine wpAnyH_take (i := 0) (oi := ⟨some 142, .fieldAddr 36 (.tmp 15) 1, 0, "law.go:166", #[], none⟩) (v := .pointer (some ⟨by9, 1, none⟩)) rfl (by kernel_rfl) (by kernel_rfl) (by kernel_rfl) (fun _ _ _ h => h) (Or.inl ⟨by rfl, fun w hSw => by go_simp⟩) (by assumption) ?_
                try simp only [Act.put, List.setIfInBounds_toArray, List.set_cons_zero, List.set_cons_succ]
                refine wpAnyH_take (i := 1) (oi := ⟨some 143, .load 34 (.tmp 142), 34, "law.go:166", #[⟨0, .data⟩], none⟩) (v := .slice (some ⟨g7, 0, none⟩) 2 c7) rfl (by kernel_rfl) (by kernel_rfl) (by kernel_rfl) (fun _ _ _ h => h) (Or.inl ⟨by rfl, fun w hSw => by obtain ⟨d0, d1, -⟩ := row2 (brow hSw (brow HB.out HBY.out)); have hbl := (Array.getElem?_eq_some_iff.1 (brow hSw (brow HB.out HBY.out))).1; go_simp⟩) (by assumption) ?_
                try simp only [Act.put, List.setIfInBounds_toArray, List.set_cons_zero, List.set_cons_succ]
                refine wpAnyH_take (i := 2) (oi := ⟨some 144, .move (.tmp 21), 3, "law.go:166", #[], none⟩) (v := .int .i64 (i : Int)) rfl (by kernel_rfl) (by kernel_rfl) (by kernel_rfl) (fun _ _ _ h => h) (Or.inl ⟨by rfl, fun w hSw => by go_simp⟩) (by assumption) ?_
                try simp only [Act.put, List.setIfInBounds_toArray, List.set_cons_zero, List.set_cons_succ]
                refine wpAnyH_take (i := 3) (oi := ⟨some 145, .indexAddr 34 (.tmp 143) (.tmp 144), 0, "law.go:166", #[⟨1, .data⟩, ⟨2, .data⟩], none⟩) (v := .pointer (some ⟨g7, i * 7, none⟩)) rfl (by kernel_rfl) (by kernel_rfl) (by kernel_rfl) (fun _ _ _ h => h) (Or.inl ⟨by rfl, fun w hSw => by go_simp⟩) (by assumption) ?_
                try simp only [Act.put, List.setIfInBounds_toArray, List.set_cons_zero, List.set_cons_succ]
                refine wpAnyH_take (i := 4) (oi := ⟨some 146, .load 32 (.tmp 145), 32, "law.go:166", #[⟨3, .data⟩], none⟩) (v := .agg #[.int .u8 3, .int .u64 0, .int .i64 0, .int .u32 201326592, .int .u8 24, .int .u16 1, .int .u16 65535]) rfl (by kernel_rfl) (by kernel_rfl) (by kernel_rfl) (fun _ _ _ h => h) (Or.inl ⟨by rfl, fun w hSw => by have hb := Ser.bcell (HB.out.trans (hSw.mono HB.out.size)); obtain ⟨k0, k1, k2, k3, k4, k5, k6⟩ := HPC.out; have hgl := Nat.lt_of_lt_of_le (Nat.lt_of_lt_of_le HGL.out HB.out.size) hSw.size; rw [← hb.1 _ _ HGL.out] at k0 k1 k2 k3 k4 k5 k6; go_simp⟩) (by assumption) ?_
                try simp only [Act.put, List.setIfInBounds_toArray, List.set_cons_zero, List.set_cons_succ]
                refine wpAnyH_take (i := 5) (oi := ⟨some 147, .load 32 (.tmp 18), 32, "law.go:166", #[], none⟩) (v := .agg #[.int .u8 3, .int .u64 0, .int .i64 0, .int .u32 201326592, .int .u8 24, .int .u16 1, .int .u16 65535]) rfl (by kernel_rfl) (by kernel_rfl) (by kernel_rfl) (fun _ _ _ h => h) (Or.inl ⟨by rfl, fun w hSw => by obtain ⟨m0, m1, m2, m3, m4, m5, m6, -⟩ := row7 (brow hSw (brow HB.out HBM.out)); have hml := (Array.getElem?_eq_some_iff.1 (brow hSw (brow HB.out HBM.out))).1; go_simp⟩) (by assumption) ?_
                try simp only [Act.put, List.setIfInBounds_toArray, List.set_cons_zero, List.set_cons_succ]
                refine wpAnyH_take (i := 6) (oi := ⟨some 148, .binOp .eql 32 (.tmp 146) (.tmp 147) 32, 4, "law.go:166", #[⟨4, .data⟩, ⟨5, .data⟩], none⟩) (v := .bool true) rfl (by kernel_rfl) (by kernel_rfl) (by kernel_rfl) (fun _ _ _ h => h) (Or.inl ⟨by rfl, fun w hSw => by go_simp⟩) (by assumption) ?_
                try simp only [Act.put, List.setIfInBounds_toArray, List.set_cons_zero, List.set_cons_succ]
                refine wpAnyH_take (i := 7) (oi := ⟨some 149, .move (.tmp 148), 4, "law.go:166", #[⟨6, .data⟩], none⟩) (v := .bool true) rfl (by kernel_rfl) (by kernel_rfl) (by kernel_rfl) (fun _ _ _ h => h) (Or.inl ⟨by rfl, fun w hSw => by go_simp⟩) (by assumption) ?_
                try simp only [Act.put, List.setIfInBounds_toArray, List.set_cons_zero, List.set_cons_succ]
                refine wpAnyH_take (i := 8) (oi := ⟨some 150, .fieldAddr 36 (.tmp 15) 1, 0, "law.go:166", #[⟨7, .guard⟩], some (7, false)⟩) (v := undef) rfl (by kernel_rfl) (by kernel_rfl) (by kernel_rfl) (fun _ _ _ h => h) (Or.inr ⟨by rfl, rfl⟩) (by assumption) ?_
                try simp only [Act.put, List.setIfInBounds_toArray, List.set_cons_zero, List.set_cons_succ]
                refine wpAnyH_take (i := 9) (oi := ⟨some 151, .load 34 (.tmp 150), 34, "law.go:166", #[⟨8, .data⟩, ⟨7, .guard⟩], some (7, false)⟩) (v := undef) rfl (by kernel_rfl) (by kernel_rfl) (by kernel_rfl) (fun _ _ _ h => h) (Or.inr ⟨by rfl, rfl⟩) (by assumption) ?_
                try simp only [Act.put, List.setIfInBounds_toArray, List.set_cons_zero, List.set_cons_succ]
                refine wpAnyH_take (i := 10) (oi := ⟨some 152, .move (.tmp 21), 3, "law.go:166", #[⟨7, .guard⟩], some (7, false)⟩) (v := undef) rfl (by kernel_rfl) (by kernel_rfl) (by kernel_rfl) (fun _ _ _ h => h) (Or.inr ⟨by rfl, rfl⟩) (by assumption) ?_
                try simp only [Act.put, List.setIfInBounds_toArray, List.set_cons_zero, List.set_cons_succ]
                refine wpAnyH_take (i := 11) (oi := ⟨some 153, .indexAddr 34 (.tmp 151) (.tmp 152), 0, "law.go:166", #[⟨9, .data⟩, ⟨10, .data⟩, ⟨7, .guard⟩], some (7, false)⟩) (v := undef) rfl (by kernel_rfl) (by kernel_rfl) (by kernel_rfl) (fun _ _ _ h => h) (Or.inr ⟨by rfl, rfl⟩) (by assumption) ?_
                try simp only [Act.put, List.setIfInBounds_toArray, List.set_cons_zero, List.set_cons_succ]
                refine wpAnyH_take (i := 12) (oi := ⟨some 154, .load 32 (.tmp 153), 32, "law.go:166", #[⟨11, .data⟩, ⟨7, .guard⟩], some (7, false)⟩) (v := undef) rfl (by kernel_rfl) (by kernel_rfl) (by kernel_rfl) (fun _ _ _ h => h) (Or.inr ⟨by rfl, rfl⟩) (by assumption) ?_
                try simp only [Act.put, List.setIfInBounds_toArray, List.set_cons_zero, List.set_cons_succ]
                refine wpAnyH_take (i := 13) (oi := ⟨some 155, .load 32 (.tmp 19), 32, "law.go:166", #[⟨7, .guard⟩], some (7, false)⟩) (v := undef) rfl (by kernel_rfl) (by kernel_rfl) (by kernel_rfl) (fun _ _ _ h => h) (Or.inr ⟨by rfl, rfl⟩) (by assumption) ?_
                try simp only [Act.put, List.setIfInBounds_toArray, List.set_cons_zero, List.set_cons_succ]
                refine wpAnyH_take (i := 14) (oi := ⟨some 156, .binOp .eql 32 (.tmp 154) (.tmp 155) 32, 4, "law.go:166", #[⟨12, .data⟩, ⟨13, .data⟩, ⟨7, .guard⟩], some (7, false)⟩) (v := undef) rfl (by kernel_rfl) (by kernel_rfl) (by kernel_rfl) (fun _ _ _ h => h) (Or.inr ⟨by rfl, rfl⟩) (by assumption) ?_
                try simp only [Act.put, List.setIfInBounds_toArray, List.set_cons_zero, List.set_cons_succ]
                refine wpAnyH_take (i := 15) (oi := ⟨some 157, .pick (.tmp 149) (.const (.bool true)) (.tmp 156), 4, "law.go:166", #[⟨7, .data⟩, ⟨14, .data⟩], none⟩) (v := .bool true) rfl (by kernel_rfl) (by kernel_rfl) (by kernel_rfl) (fun _ _ _ h => h) (Or.inl ⟨by rfl, fun w hSw => by go_simp⟩) (by assumption) ?_
                try simp only [Act.put, List.setIfInBounds_toArray, List.set_cons_zero, List.set_cons_succ]
                refine wpAnyH_done (by kernel_rfl) ?_ _
                try unfold NoPanic
                have HD := Lib.hid (HB.out.trans (hHeld.mono HB.out.size))
                clear hHeld
                go_wp2
                go_roundw
                case rel => exact ⟨i + 1, by omega, by omega, by go_num, by go_num, HD⟩
                case measure => simp [intOf]; omega
              · rw [htt] at hcs
                have hcast : ((x + 96 : Nat) : Int) = (x : Int) + 96 := by omega
                have HPC : Hid (PX wr0 g7 (i * 7) (pa : Int) (pn : Int) 0 65535) := Lib.hid ⟨(HTW8.out.gc _).trans (hcs 0 (by decide)), (HTW8.out.gc _).trans (hcs 1 (by decide)), (HTW8.out.gc _).trans (hcs 2 (by decide)), (HTW8.out.gc _).trans (hcs 3 (by decide)), (HTW8.out.gc _).trans (hcs 4 (by decide)), (HTW8.out.gc _).trans (hcs 5 (by decide)), (HTW8.out.gc _).trans (hcs 6 (by decide))⟩
                clear hcs htt hcast
                unfold PX at HPC
                go_upto_region 33 with (fail)
                clear d0 d1 hbl
                refine wp_region_noPanic ?_
                refine wp_region_held_drew (S := fun y9 : World => Below wr.heap.size wr y9) (by kernel_rfl) ((Below.refl _ _).drew) (fun hHeld => ?_)
                generalize wr.drew = wd at *
                refine wpAnyH_take (i := 0) (oi := ⟨some 142, .fieldAddr 36 (.tmp 15) 1, 0, "law.go:166", #[], none⟩) (v := .pointer (some ⟨by9, 1, none⟩)) rfl (by kernel_rfl) (by kernel_rfl) (by kernel_rfl) (fun _ _ _ h => h) (Or.inl ⟨by rfl, fun w hSw => by go_simp⟩) (by assumption) ?_
                try simp only [Act.put, List.setIfInBounds_toArray, List.set_cons_zero, List.set_cons_succ]
                refine wpAnyH_take (i := 1) (oi := ⟨some 143, .load 34 (.tmp 142), 34, "law.go:166", #[⟨0, .data⟩], none⟩) (v := .slice (some ⟨g7, 0, none⟩) 2 c7) rfl (by kernel_rfl) (by kernel_rfl) (by kernel_rfl) (fun _ _ _ h => h) (Or.inl ⟨by rfl, fun w hSw => by obtain ⟨d0, d1, -⟩ := row2 (brow hSw (brow HB.out HBY.out)); have hbl := (Array.getElem?_eq_some_iff.1 (brow hSw (brow HB.out HBY.out))).1; go_simp⟩) (by assumption) ?_
                try simp only [Act.put, List.setIfInBounds_toArray, List.set_cons_zero, List.set_cons_succ]
                refine wpAnyH_take (i := 2) (oi := ⟨some 144, .move (.tmp 21), 3, "law.go:166", #[], none⟩) (v := .int .i64 (i : Int)) rfl (by kernel_rfl) (by kernel_rfl) (by kernel_rfl) (fun _ _ _ h => h) (Or.inl ⟨by rfl, fun w hSw => by go_simp⟩) (by assumption) ?_
                try simp only [Act.put, List.setIfInBounds_toArray, List.set_cons_zero, List.set_cons_succ]
                refine wpAnyH_take (i := 3) (oi := ⟨some 145, .indexAddr 34 (.tmp 143) (.tmp 144), 0, "law.go:166", #[⟨1, .data⟩, ⟨2, .data⟩], none⟩) (v := .pointer (some ⟨g7, i * 7, none⟩)) rfl (by kernel_rfl) (by kernel_rfl) (by kernel_rfl) (fun _ _ _ h => h) (Or.inl ⟨by rfl, fun w hSw => by go_simp⟩) (by assumption) ?_
                try simp only [Act.put, List.setIfInBounds_toArray, List.set_cons_zero, List.set_cons_succ]
                refine wpAnyH_take (i := 4) (oi := ⟨some 146, .load 32 (.tmp 145), 32, "law.go:166", #[⟨3, .data⟩], none⟩) (v := .agg #[.int .u8 3, .int .u64 0, .int .i64 0, .int .u32 (pa : Int), .int .u8 (pn : Int), .int .u16 0, .int .u16 65535]) rfl (by kernel_rfl) (by kernel_rfl) (by kernel_rfl) (fun _ _ _ h => h) (Or.inl ⟨by rfl, fun w hSw => by have hb := Ser.bcell (HB.out.trans (hSw.mono HB.out.size)); obtain ⟨k0, k1, k2, k3, k4, k5, k6⟩ := HPC.out; have hgl := Nat.lt_of_lt_of_le (Nat.lt_of_lt_of_le HGL.out HB.out.size) hSw.size; rw [← hb.1 _ _ HGL.out] at k0 k1 k2 k3 k4 k5 k6; go_simp⟩) (by assumption) ?_
                try simp only [Act.put, List.setIfInBounds_toArray, List.set_cons_zero, List.set_cons_succ]
                refine wpAnyH_take (i := 5) (oi := ⟨some 147, .load 32 (.tmp 18), 32, "law.go:166", #[], none⟩) (v := .agg #[.int .u8 3, .int .u64 0, .int .i64 0, .int .u32 201326592, .int .u8 24, .int .u16 1, .int .u16 65535]) rfl (by kernel_rfl) (by kernel_rfl) (by kernel_rfl) (fun _ _ _ h => h) (Or.inl ⟨by rfl, fun w hSw => by obtain ⟨m0, m1, m2, m3, m4, m5, m6, -⟩ := row7 (brow hSw (brow HB.out HBM.out)); have hml := (Array.getElem?_eq_some_iff.1 (brow hSw (brow HB.out HBM.out))).1; go_simp⟩) (by assumption) ?_
                try simp only [Act.put, List.setIfInBounds_toArray, List.set_cons_zero, List.set_cons_succ]
                refine wpAnyH_take (i := 6) (oi := ⟨some 148, .binOp .eql 32 (.tmp 146) (.tmp 147) 32, 4, "law.go:166", #[⟨4, .data⟩, ⟨5, .data⟩], none⟩) (v := .bool false) rfl (by kernel_rfl) (by kernel_rfl) (by kernel_rfl) (fun _ _ _ h => h) (Or.inl ⟨by rfl, fun w hSw => by have hp9 := HPO.out; go_simp⟩) (by assumption) ?_
                try simp only [Act.put, List.setIfInBounds_toArray, List.set_cons_zero, List.set_cons_succ]
                refine wpAnyH_take (i := 7) (oi := ⟨some 149, .move (.tmp 148), 4, "law.go:166", #[⟨6, .data⟩], none⟩) (v := .bool false) rfl (by kernel_rfl) (by kernel_rfl) (by kernel_rfl) (fun _ _ _ h => h) (Or.inl ⟨by rfl, fun w hSw => by go_simp⟩) (by assumption) ?_
                try simp only [Act.put, List.setIfInBounds_toArray, List.set_cons_zero, List.set_cons_succ]
                refine wpAnyH_take (i := 8) (oi := ⟨some 150, .fieldAddr 36 (.tmp 15) 1, 0, "law.go:166", #[⟨7, .guard⟩], some (7, false)⟩) (v := .pointer (some ⟨by9, 1, none⟩)) rfl (by kernel_rfl) (by kernel_rfl) (by kernel_rfl) (fun _ _ _ h => h) (Or.inl ⟨by rfl, fun w hSw => by go_simp⟩) (by assumption) ?_
                try simp only [Act.put, List.setIfInBounds_toArray, List.set_cons_zero, List.set_cons_succ]
                refine wpAnyH_take (i := 9) (oi := ⟨some 151, .load 34 (.tmp 150), 34, "law.go:166", #[⟨8, .data⟩, ⟨7, .guard⟩], some (7, false)⟩) (v := .slice (some ⟨g7, 0, none⟩) 2 c7) rfl (by kernel_rfl) (by kernel_rfl) (by kernel_rfl) (fun _ _ _ h => h) (Or.inl ⟨by rfl, fun w hSw => by obtain ⟨d0, d1, -⟩ := row2 (brow hSw (brow HB.out HBY.out)); have hbl := (Array.getElem?_eq_some_iff.1 (brow hSw (brow HB.out HBY.out))).1; go_simp⟩) (by assumption) ?_
                try simp only [Act.put, List.setIfInBounds_toArray, List.set_cons_zero, List.set_cons_succ]
                refine wpAnyH_take (i := 10) (oi := ⟨some 152, .move (.tmp 21), 3, "law.go:166", #[⟨7, .guard⟩], some (7, false)⟩) (v := .int .i64 (i : Int)) rfl (by kernel_rfl) (by kernel_rfl) (by kernel_rfl) (fun _ _ _ h => h) (Or.inl ⟨by rfl, fun w hSw => by go_simp⟩) (by assumption) ?_
                try simp only [Act.put, List.setIfInBounds_toArray, List.set_cons_zero, List.set_cons_succ]
                refine wpAnyH_take (i := 11) (oi := ⟨some 153, .indexAddr 34 (.tmp 151) (.tmp 152), 0, "law.go:166", #[⟨9, .data⟩, ⟨10, .data⟩, ⟨7, .guard⟩], some (7, false)⟩) (v := .pointer (some ⟨g7, i * 7, none⟩)) rfl (by kernel_rfl) (by kernel_rfl) (by kernel_rfl) (fun _ _ _ h => h) (Or.inl ⟨by rfl, fun w hSw => by go_simp⟩) (by assumption) ?_
                try simp only [Act.put, List.setIfInBounds_toArray, List.set_cons_zero, List.set_cons_succ]
                refine wpAnyH_take (i := 12) (oi := ⟨some 154, .load 32 (.tmp 153), 32, "law.go:166", #[⟨11, .data⟩, ⟨7, .guard⟩], some (7, false)⟩) (v := .agg #[.int .u8 3, .int .u64 0, .int .i64 0, .int .u32 (pa : Int), .int .u8 (pn : Int), .int .u16 0, .int .u16 65535]) rfl (by kernel_rfl) (by kernel_rfl) (by kernel_rfl) (fun _ _ _ h => h) (Or.inl ⟨by rfl, fun w hSw => by have hb := Ser.bcell (HB.out.trans (hSw.mono HB.out.size)); obtain ⟨k0, k1, k2, k3, k4, k5, k6⟩ := HPC.out; have hgl := Nat.lt_of_lt_of_le (Nat.lt_of_lt_of_le HGL.out HB.out.size) hSw.size; rw [← hb.1 _ _ HGL.out] at k0 k1 k2 k3 k4 k5 k6; go_simp⟩) (by assumption) ?_
                try simp only [Act.put, List.setIfInBounds_toArray, List.set_cons_zero, List.set_cons_succ]
                refine wpAnyH_take (i := 13) (oi := ⟨some 155, .load 32 (.tmp 19), 32, "law.go:166", #[⟨7, .guard⟩], some (7, false)⟩) (v := .agg #[.int .u8 3, .int .u64 0, .int .i64 0, .int .u32 (pa : Int), .int .u8 (pn : Int), .int .u16 0, .int .u16 65535]) rfl (by kernel_rfl) (by kernel_rfl) (by kernel_rfl) (fun _ _ _ h => h) (Or.inl ⟨by rfl, fun w hSw => by obtain ⟨m0, m1, m2, m3, m4, m5, m6, -⟩ := row7 (brow hSw (brow HB.out HBT.out)); have hml := (Array.getElem?_eq_some_iff.1 (brow hSw (brow HB.out HBT.out))).1; go_simp⟩) (by assumption) ?_
                try simp only [Act.put, List.setIfInBounds_toArray, List.set_cons_zero, List.set_cons_succ]
                refine wpAnyH_take (i := 14) (oi := ⟨some 156, .binOp .eql 32 (.tmp 154) (.tmp 155) 32, 4, "law.go:166", #[⟨12, .data⟩, ⟨13, .data⟩, ⟨7, .guard⟩], some (7, false)⟩) (v := .bool true) rfl (by kernel_rfl) (by kernel_rfl) (by kernel_rfl) (fun _ _ _ h => h) (Or.inl ⟨by rfl, fun w hSw => by go_simp⟩) (by assumption) ?_
                try simp only [Act.put, List.setIfInBounds_toArray, List.set_cons_zero, List.set_cons_succ]
                refine wpAnyH_take (i := 15) (oi := ⟨some 157, .pick (.tmp 149) (.const (.bool true)) (.tmp 156), 4, "law.go:166", #[⟨7, .data⟩, ⟨14, .data⟩], none⟩) (v := .bool true) rfl (by kernel_rfl) (by kernel_rfl) (by kernel_rfl) (fun _ _ _ h => h) (Or.inl ⟨by rfl, fun w hSw => by go_simp⟩) (by assumption) ?_
                try simp only [Act.put, List.setIfInBounds_toArray, List.set_cons_zero, List.set_cons_succ]
                refine wpAnyH_done (by kernel_rfl) ?_ _
                try unfold NoPanic
                have HD := Lib.hid (HB.out.trans (hHeld.mono HB.out.size))
                clear hHeld
                go_wp2
                go_roundw
                case rel => exact ⟨i + 1, by omega, by omega, by go_num, by go_num, HD⟩
                case measure => simp [intOf]; omega
            · obtain rfl : i = 2 := by omega
              go_wp2
              go_ret
              exact ⟨rfl, H1.out.trans ((HTW8.out.step HB.out).b.mono H1.out.size)⟩
    | false =>
      go_upto_region 12 with (fail)
      clear HT3 CU2 HH3 HS3
      cases a3 with
      | true =>
        by_cases hp : now % 2 = 0
        · have HP := Lib.hid hp
          have hpi : (((now : Int) % 2) == 0) = true := by simp; omega
          clear hp
          have HTF : Hid (∀ w1 W q e rb, LW w1 W q e [(rb, #[.int .u32 (pa : Int), .int .u8 (pn : Int), .bool false, .int .u32 0, .int .u8 0, .int .i64 0, .int .u16 0, .int .u16 0, .int .u16 (s : Int), .int .u16 ((x : Int) + 96)], 62)] → (St 96 96 p (Eg.one (pA p) (pN p) 1 s x 2) (some (s, x + 96)) 3 1 2 e ∧ e.he = 0 ∧ e.rq = [] ∧ e.due = true ∧ e.lost = [] ∧ (e.ch = [oR, (⟨pa, pn, 1, x + 96, s⟩ : Ro)] ∨ e.ch = [(⟨pa, pn, 1, x + 96, s⟩ : Ro), oR])) → Calls Tryz.prog 24 #[.pointer (some ⟨q, 0, none⟩), .int .u64 (now : Int), .slice (some ⟨rb, 0, none⟩) 1 1] W fun en w' => ∃ g7 c7 t1 t2, en = .returned (.tuple #[.agg #[.int .i64 0, .slice (some ⟨g7, 0, none⟩) 5 c7], .bool true]) ∧ 5 ≤ c7 ∧ Below w1.heap.size w1 w' ∧ g7 < w'.heap.size ∧ (∀ j (hj : j < (hP ++ [t1, t2]).length), ∀ i, i < 7 → w'.cell? ⟨g7, j * 7 + i, none⟩ = (Pt.cl ((hP : List Pt) ++ [t1, t2])[j])[i]?) ∧ ((t1 = mineP ∧ t2 = (⟨3, 0, 0, pa, pn, s, x + 96⟩ : Pt)) ∨ (t1 = (⟨3, 0, 0, pa, pn, s, x + 96⟩ : Pt) ∧ t2 = mineP))) := Lib.hid fun w1 W q e rb h hQ => by
            have hpr : e.upds [(⟨pa, pn, false, 0, 0, 0, 0, 0, s, x + 96⟩ : Rw)] = [mineP, (⟨3, 0, 0, pa, pn, s, x + 96⟩ : Pt)] ∨ e.upds [(⟨pa, pn, false, 0, 0, 0, 0, 0, s, x + 96⟩ : Rw)] = [(⟨3, 0, 0, pa, pn, s, x + 96⟩ : Pt), mineP] := upds_two hQ.1.met.id hQ.2.2.2.2.1 hQ.2.2.2.2.2 (x + 96) (x + 96) hpo (by first | exact (if_pos (by omega)).symm | exact (if_neg (by omega)).symm)
            have htp := tellP_is hQ.1.met hQ.2.1 hQ.2.2.1 hQ.2.2.2.1 now [(⟨pa, pn, false, 0, 0, 0, 0, 0, s, x + 96⟩ : Rw)]
            rw [if_pos HP.out] at htp
            have hne : e.tellP now [(⟨pa, pn, false, 0, 0, 0, 0, 0, s, x + 96⟩ : Rw)] ≠ [] := by
              rw [htp]
              rcases hpr with h9 | h9 <;> rw [h9] <;> simp
            have hcast : ((x + 96 : Nat) : Int) = (x : Int) + 96 := by omega
            have hrow : W.heap[rb]? = some (.cells (Rw.cl (⟨pa, pn, false, 0, 0, 0, 0, 0, s, x + 96⟩ : Rw)).toArray 62 (0, 0)) := by
              have h9 := h.row (List.mem_cons_self ..)
              rw [← hcast] at h9
              exact h9
            have hc := tell_lw0 h (by rw [hQ.2.1]; decide) (by rw [hQ.2.2.2.2.1]; decide) now (some ⟨rb, 0, none⟩) 1 1 [(⟨pa, pn, false, 0, 0, 0, 0, 0, s, x + 96⟩ : Rw)] rfl (by decide) (gsl_row hrow) (Or.inr ⟨rb, _, rfl, List.mem_cons_self ..⟩) hne
            refine hc.mono ?_
            rintro en w' ⟨g, c, rfl, hle, hg, hcs, hL⟩
            rw [hQ.1.met.id]
            rw [htp] at hle hcs ⊢
            rcases hpr with h9 | h9
            · rw [h9] at hle hcs ⊢
              exact ⟨g, c, _, _, rfl, hle, hL.b, hg, hcs, Or.inl ⟨rfl, rfl⟩⟩
            · rw [h9] at hle hcs ⊢
              exact ⟨g, c, _, _, rfl, hle, hL.b, hg, hcs, Or.inr ⟨rfl, rfl⟩⟩
          go_upto_region 13 with (go_at_call 19; (with_reducible refine (CP.out _).mono ?_); rintro en wg ⟨rfl, hB⟩; have HLg := Lib.hid (HL7.out.step hB); clear hB HL7)
          have HLh := Lib.hid (HLg.out.add #[.int .u32 (pa : Int), .int .u8 (pn : Int), .bool false, .int .u32 0, .int .u8 0, .int .i64 0, .int .u16 0, .int .u16 0, .int .u16 (s : Int), .int .u16 ((x : Int) + 97)] 62)
          have HRBW := Lib.hid HLg.out.b.size
          clear HLg
          generalize World.alloc wg _ = wh at *
          generalize wg.heap.size = rb at *
          have hrow := HLh.out.row (List.mem_cons_self ..)
          have c9 := cell_of_row wh rb 9 _ 62 (0, 0) hrow
          have f9 := frozen_of_row wh rb 9 _ 62 hrow
          have hrl := (Array.getElem?_eq_some_iff.1 hrow).1
          have HLi := Lib.hid (HLh.out.set HRBW.out (fun k hk => by cases hk) 9 (.int .u16 ((x : Int) + 96)))
          clear hrow HLh
          go_upto_region 15 with (fail)
          clear c9 f9 hrl
          generalize World.setCell _ _ _ = wi at *
          go_upto_region 16 with (go_at_call 24; (with_reducible refine (HTF.out _ _ _ _ _ HLi.out HQ7.out).mono ?_); rintro en wt ⟨g7, c7, t1, t2, rfl, hc7, hB, hg, hcs, hpr⟩; have HT7 := Lib.hid (And.intro hB (And.intro hg (And.intro hcs hpr))); clear hB hg hcs hpr HLi HTF HQ7)
          have BY := (Below.refl wt.heap.size wt).alloc (Nat.le_refl _) (.cells #[.int .i64 0, .slice (some ⟨g7, 0, none⟩) 5 c7] 36)
          have HTW : Hid (TW w1 wt g7 wt.heap.size #[.int .i64 0, .slice (some ⟨g7, 0, none⟩) 5 c7] (wt.alloc (.cells #[.int .i64 0, .slice (some ⟨g7, 0, none⟩) 5 c7] 36))) := Lib.hid ⟨HT7.out.1.trans (BY.mono HT7.out.1.size), ⟨HT7.out.1.size, BY.size⟩, HT7.out.2.1, fun o => (Ser.bcell BY).1 g7 o HT7.out.2.1, heap_alloc_new wt _⟩
          clear BY
          generalize wt.alloc _ = wy at *
          generalize hby : wt.heap.size = by9 at HTW
          have HBY9 := Lib.hid hby
          clear hby
          obtain ⟨d0, d1, -⟩ := row2 HTW.out.y
          have hbl := (Array.getElem?_eq_some_iff.1 HTW.out.y).1
          have hgl := Nat.lt_of_lt_of_le HTW.out.g HTW.out.t.2
          have p0 : wy.cell? ⟨g7, 0, none⟩ = some (.int .u8 1) := (HTW.out.gc 0).trans (HT7.out.2.2.1 0 (by simp [hP]) 0 (by decide))
          have p7 : wy.cell? ⟨g7, 7, none⟩ = some (.int .u8 2) := (HTW.out.gc 7).trans (HT7.out.2.2.1 1 (by simp [hP]) 0 (by decide))
          have p8 : wy.cell? ⟨g7, 8, none⟩ = some (.int .u64 0) := (HTW.out.gc 8).trans (HT7.out.2.2.1 1 (by simp [hP]) 1 (by decide))
          have p9 : wy.cell? ⟨g7, 9, none⟩ = some (.int .i64 1) := (HTW.out.gc 9).trans (HT7.out.2.2.1 1 (by simp [hP]) 2 (by decide))
          have p10 : wy.cell? ⟨g7, 10, none⟩ = some (.int .u32 0) := (HTW.out.gc 10).trans (HT7.out.2.2.1 1 (by simp [hP]) 3 (by decide))
          have p11 : wy.cell? ⟨g7, 11, none⟩ = some (.int .u8 0) := (HTW.out.gc 11).trans (HT7.out.2.2.1 1 (by simp [hP]) 4 (by decide))
          have p12 : wy.cell? ⟨g7, 12, none⟩ = some (.int .u16 0) := (HTW.out.gc 12).trans (HT7.out.2.2.1 1 (by simp [hP]) 5 (by decide))
          have p13 : wy.cell? ⟨g7, 13, none⟩ = some (.int .u16 96) := (HTW.out.gc 13).trans (HT7.out.2.2.1 1 (by simp [hP]) 6 (by decide))
          have p14 : wy.cell? ⟨g7, 14, none⟩ = some (.int .u8 2) := (HTW.out.gc 14).trans (HT7.out.2.2.1 2 (by simp [hP]) 0 (by decide))
          have p15 : wy.cell? ⟨g7, 15, none⟩ = some (.int .u64 0) := (HTW.out.gc 15).trans (HT7.out.2.2.1 2 (by simp [hP]) 1 (by decide))
          have p16 : wy.cell? ⟨g7, 16, none⟩ = some (.int .i64 2) := (HTW.out.gc 16).trans (HT7.out.2.2.1 2 (by simp [hP]) 2 (by decide))
          have p17 : wy.cell? ⟨g7, 17, none⟩ = some (.int .u32 0) := (HTW.out.gc 17).trans (HT7.out.2.2.1 2 (by simp [hP]) 3 (by decide))
          have p18 : wy.cell? ⟨g7, 18, none⟩ = some (.int .u8 0) := (HTW.out.gc 18).trans (HT7.out.2.2.1 2 (by simp [hP]) 4 (by decide))
          have p19 : wy.cell? ⟨g7, 19, none⟩ = some (.int .u16 0) := (HTW.out.gc 19).trans (HT7.out.2.2.1 2 (by simp [hP]) 5 (by decide))
          have p20 : wy.cell? ⟨g7, 20, none⟩ = some (.int .u16 96) := (HTW.out.gc 20).trans (HT7.out.2.2.1 2 (by simp [hP]) 6 (by decide))
          go_upto_region 23 with (fail)
          clear d0 d1 hbl p0 hgl p7 p8 p9 p10 p11 p12 p13 p14 p15 p16 p17 p18 p19 p20
          go_upto_region 24 with (go_at_call 25; (with_reducible refine (own_call _).mono ?_); rintro en wz ⟨z, rfl, hS, hR, B⟩; have HTW2 := Lib.hid (HTW.out.step B); obtain ⟨q0, q1, -⟩ := row2 hR; have hzl := (Array.getElem?_eq_some_iff.1 hR).1; clear hS hR B HTW)
          clear q0 q1 hzl
          have BM := (Below.refl wz.heap.size wz).alloc (Nat.le_refl _) (.cells #[.int .u8 3, .int .u64 0, .int .i64 0, .int .u32 201326592, .int .u8 24, .int .u16 1, .int .u16 65535] 32)
          have HTW3 := Lib.hid (HTW2.out.step BM)
          have HM3 := Lib.hid (heap_alloc_new wz (.cells #[.int .u8 3, .int .u64 0, .int .i64 0, .int .u32 201326592, .int .u8 24, .int .u16 1, .int .u16 65535] 32))
          clear BM HTW2
          generalize wz.alloc _ = wm at *
          generalize wz.heap.size = bm at *
          go_upto_region 25 with (go_at_call 19; (with_reducible refine (CP.out _).mono ?_); rintro en wn ⟨rfl, hB⟩; have HTW4 := Lib.hid (HTW3.out.step hB); have HM4 := Lib.hid (brow hB HM3.out); clear hB HTW3 HM3)
          have BM := (Below.refl wn.heap.size wn).alloc (Nat.le_refl _) (.cells #[.int .u8 3, .int .u64 0, .int .i64 0, .int .u32 (pa : Int), .int .u8 (pn : Int), .int .u16 (s : Int), .int .u16 ((x : Int) + 96)] 32)
          have HTW5 := Lib.hid (HTW4.out.step BM)
          have HM5 := Lib.hid (brow BM HM4.out)
          have HR5 := Lib.hid (heap_alloc_new wn (.cells #[.int .u8 3, .int .u64 0, .int .i64 0, .int .u32 (pa : Int), .int .u8 (pn : Int), .int .u16 (s : Int), .int .u16 ((x : Int) + 96)] 32))
          have HBT5 := Lib.hid (And.intro HTW4.out.t.2 (show bm ≠ wn.heap.size from fun e9 => absurd (Array.getElem?_eq_some_iff.1 HM4.out).1 (by rw [e9]; exact Nat.lt_irrefl _)))
          clear BM HTW4 HM4
          generalize wn.alloc _ = wo at *
          generalize wn.heap.size = bt at *
          go_upto_region 27 with (fail)
          go_upto_region 29 with (fail)
          have HPO : Hid (((pa : Int) == 201326592) = false) := Lib.hid (by simp; omega)
          have HBM := HM5
          have HBT := HR5
          have HBY := Lib.hid HTW5.out.y
          have HGL := Lib.hid (Nat.lt_of_lt_of_le HTW5.out.g HTW5.out.t.2)
          obtain ⟨d0, d1, -⟩ := row2 HBY.out
          have hbl := (Array.getElem?_eq_some_iff.1 HBY.out).1
          go_wp2
          go_loopw [20, 21] (fun nv iv wr => ∃ i : Nat, 3 ≤ i ∧ i ≤ 5 ∧ iv = .int .i64 i ∧ nv = .int .i64 ((i : Int) - 3) ∧ Hid (Below wo.heap.size wo wr)) (fun _ iv _ => 5 - (intOf iv).toNat)
          case atStart => exact ⟨3, by decide, by decide, rfl, rfl, Lib.hid (Below.refl _ _)⟩
          case round =>
            obtain ⟨i, hi0, hi, rfl, rfl, HB⟩ := hrel
            obtain ⟨d0, d1, -⟩ := row2 (brow HB.out HBY.out)
            have hbl := (Array.getElem?_eq_some_iff.1 (brow HB.out HBY.out)).1
            by_cases hlt : i < 5
            · have hcs := HT7.out.2.2.1 i (by simp [hP]; omega)
              have htt : (((hP : List Pt) ++ [t1, t2])[i]'(by simp [hP]; omega)) = mineP ∨ (((hP : List Pt) ++ [t1, t2])[i]'(by simp [hP]; omega)) = (⟨3, 0, 0, pa, pn, s, x + 96⟩ : Pt) := by
                have hii : i = 3 ∨ i = 4 := by omega
                rcases hii with rfl | rfl <;> rcases HT7.out.2.2.2 with ⟨h8, h9⟩ | ⟨h8, h9⟩ <;> subst h8 h9
                · exact Or.inl rfl
                · exact Or.inr rfl
                · exact Or.inr rfl
                · exact Or.inl rfl
              rcases htt with htt | htt
              · rw [htt] at hcs
                have HPC : Hid (PX wo g7 (i * 7) 201326592 24 1 65535) := Lib.hid ⟨(HTW5.out.gc _).trans (hcs 0 (by decide)), (HTW5.out.gc _).trans (hcs 1 (by decide)), (HTW5.out.gc _).trans (hcs 2 (by decide)), (HTW5.out.gc _).trans (hcs 3 (by decide)), (HTW5.out.gc _).trans (hcs 4 (by decide)), (HTW5.out.gc _).trans (hcs 5 (by decide)), (HTW5.out.gc _).trans (hcs 6 (by decide))⟩
                clear hcs htt
                unfold PX at HPC
                go_upto_region 33 with (fail)
                clear d0 d1 hbl
                refine wp_region_noPanic ?_
                refine wp_region_held_drew (S := fun y9 : World => Below wr.heap.size wr y9) (by kernel_rfl) ((Below.refl _ _).drew) (fun hHeld => ?_)
                generalize wr.drew = wd at *
                refine wpAnyH_take (i := 0) (oi := ⟨some 142, .fieldAddr 36 (.tmp 15) 1, 0, "law.go:166", #[], none⟩) (v := .pointer (some ⟨by9, 1, none⟩)) rfl (by kernel_rfl) (by kernel_rfl) (by kernel_rfl) (fun _ _ _ h => h) (Or.inl ⟨by rfl, fun w hSw => by go_simp⟩) (by assumption) ?_
                try simp only [Act.put, List.setIfInBounds_toArray, List.set_cons_zero, List.set_cons_succ]
                refine wpAnyH_take (i := 1) (oi := ⟨some 143, .load 34 (.tmp 142), 34, "law.go:166", #[⟨0, .data⟩], none⟩) (v := .slice (some ⟨g7, 0, none⟩) 5 c7) rfl (by kernel_rfl) (by kernel_rfl) (by kernel_rfl) (fun _ _ _ h => h) (Or.inl ⟨by rfl, fun w hSw => by obtain ⟨d0, d1, -⟩ := row2 (brow hSw (brow HB.out HBY.out)); have hbl := (Array.getElem?_eq_some_iff.1 (brow hSw (brow HB.out HBY.out))).1; go_simp⟩) (by assumption) ?_
                try simp only [Act.put, List.setIfInBounds_toArray, List.set_cons_zero, List.set_cons_succ]
                refine wpAnyH_take (i := 2) (oi := ⟨some 144, .move (.tmp 21), 3, "law.go:166", #[], none⟩) (v := .int .i64 (i : Int)) rfl (by kernel_rfl) (by kernel_rfl) (by kernel_rfl) (fun _ _ _ h => h) (Or.inl ⟨by rfl, fun w hSw => by go_simp⟩) (by assumption) ?_
                try simp only [Act.put, List.setIfInBounds_toArray, List.set_cons_zero, List.set_cons_succ]
                refine wpAnyH_take (i := 3) (oi := ⟨some 145, .indexAddr 34 (.tmp 143) (.tmp 144), 0, "law.go:166", #[⟨1, .data⟩, ⟨2, .data⟩], none⟩) (v := .pointer (some ⟨g7, i * 7, none⟩)) rfl (by kernel_rfl) (by kernel_rfl) (by kernel_rfl) (fun _ _ _ h => h) (Or.inl ⟨by rfl, fun w hSw => by go_simp⟩) (by assumption) ?_
                try simp only [Act.put, List.setIfInBounds_toArray, List.set_cons_zero, List.set_cons_succ]
                refine wpAnyH_take (i := 4) (oi := ⟨some 146, .load 32 (.tmp 145), 32, "law.go:166", #[⟨3, .data⟩], none⟩) (v := .agg #[.int .u8 3, .int .u64 0, .int .i64 0, .int .u32 201326592, .int .u8 24, .int .u16 1, .int .u16 65535]) rfl (by kernel_rfl) (by kernel_rfl) (by kernel_rfl) (fun _ _ _ h => h) (Or.inl ⟨by rfl, fun w hSw => by have hb := Ser.bcell (HB.out.trans (hSw.mono HB.out.size)); obtain ⟨k0, k1, k2, k3, k4, k5, k6⟩ := HPC.out; have hgl := Nat.lt_of_lt_of_le (Nat.lt_of_lt_of_le HGL.out HB.out.size) hSw.size; rw [← hb.1 _ _ HGL.out] at k0 k1 k2 k3 k4 k5 k6; go_simp⟩) (by assumption) ?_
                try simp only [Act.put, List.setIfInBounds_toArray, List.set_cons_zero, List.set_cons_succ]
                refine wpAnyH_take (i := 5) (oi := ⟨some 147, .load 32 (.tmp 18), 32, "law.go:166", #[], none⟩) (v := .agg #[.int .u8 3, .int .u64 0, .int .i64 0, .int .u32 201326592, .int .u8 24, .int .u16 1, .int .u16 65535]) rfl (by kernel_rfl) (by kernel_rfl) (by kernel_rfl) (fun _ _ _ h => h) (Or.inl ⟨by rfl, fun w hSw => by obtain ⟨m0, m1, m2, m3, m4, m5, m6, -⟩ := row7 (brow hSw (brow HB.out HBM.out)); have hml := (Array.getElem?_eq_some_iff.1 (brow hSw (brow HB.out HBM.out))).1; go_simp⟩) (by assumption) ?_
                try simp only [Act.put, List.setIfInBounds_toArray, List.set_cons_zero, List.set_cons_succ]
                refine wpAnyH_take (i := 6) (oi := ⟨some 148, .binOp .eql 32 (.tmp 146) (.tmp 147) 32, 4, "law.go:166", #[⟨4, .data⟩, ⟨5, .data⟩], none⟩) (v := .bool true) rfl (by kernel_rfl) (by kernel_rfl) (by kernel_rfl) (fun _ _ _ h => h) (Or.inl ⟨by rfl, fun w hSw => by go_simp⟩) (by assumption) ?_
                try simp only [Act.put, List.setIfInBounds_toArray, List.set_cons_zero, List.set_cons_succ]
                refine wpAnyH_take (i := 7) (oi := ⟨some 149, .move (.tmp 148), 4, "law.go:166", #[⟨6, .data⟩], none⟩) (v := .bool true) rfl (by kernel_rfl) (by kernel_rfl) (by kernel_rfl) (fun _ _ _ h => h) (Or.inl ⟨by rfl, fun w hSw => by go_simp⟩) (by assumption) ?_
                try simp only [Act.put, List.setIfInBounds_toArray, List.set_cons_zero, List.set_cons_succ]
                refine wpAnyH_take (i := 8) (oi := ⟨some 150, .fieldAddr 36 (.tmp 15) 1, 0, "law.go:166", #[⟨7, .guard⟩], some (7, false)⟩) (v := undef) rfl (by kernel_rfl) (by kernel_rfl) (by kernel_rfl) (fun _ _ _ h => h) (Or.inr ⟨by rfl, rfl⟩) (by assumption) ?_
                try simp only [Act.put, List.setIfInBounds_toArray, List.set_cons_zero, List.set_cons_succ]
                refine wpAnyH_take (i := 9) (oi := ⟨some 151, .load 34 (.tmp 150), 34, "law.go:166", #[⟨8, .data⟩, ⟨7, .guard⟩], some (7, false)⟩) (v := undef) rfl (by kernel_rfl) (by kernel_rfl) (by kernel_rfl) (fun _ _ _ h => h) (Or.inr ⟨by rfl, rfl⟩) (by assumption) ?_
                try simp only [Act.put, List.setIfInBounds_toArray, List.set_cons_zero, List.set_cons_succ]
                refine wpAnyH_take (i := 10) (oi := ⟨some 152, .move (.tmp 21), 3, "law.go:166", #[⟨7, .guard⟩], some (7, false)⟩) (v := undef) rfl (by kernel_rfl) (by kernel_rfl) (by kernel_rfl) (fun _ _ _ h => h) (Or.inr ⟨by rfl, rfl⟩) (by assumption) ?_
                try simp only [Act.put, List.setIfInBounds_toArray, List.set_cons_zero, List.set_cons_succ]
                refine wpAnyH_take (i := 11) (oi := ⟨some 153, .indexAddr 34 (.tmp 151) (.tmp 152), 0, "law.go:166", #[⟨9, .data⟩, ⟨10, .data⟩, ⟨7, .guard⟩], some (7, false)⟩) (v := undef) rfl (by kernel_rfl) (by kernel_rfl) (by kernel_rfl) (fun _ _ _ h => h) (Or.inr ⟨by rfl, rfl⟩) (by assumption) ?_
                try simp only [Act.put, List.setIfInBounds_toArray, List.set_cons_zero, List.set_cons_succ]
                refine wpAnyH_take (i := 12) (oi := ⟨some 154, .load 32 (.tmp 153), 32, "law.go:166", #[⟨11, .data⟩, ⟨7, .guard⟩], some (7, false)⟩) (v := undef) rfl (by kernel_rfl) (by kernel_rfl) (by kernel_rfl) (fun _ _ _ h => h) (Or.inr ⟨by rfl, rfl⟩) (by assumption) ?_
                try simp only [Act.put, List.setIfInBounds_toArray, List.set_cons_zero, List.set_cons_succ]
                refine wpAnyH_take (i := 13) (oi := ⟨some 155, .load 32 (.tmp 19), 32, "law.go:166", #[⟨7, .guard⟩], some (7, false)⟩) (v := undef) rfl (by kernel_rfl) (by kernel_rfl) (by kernel_rfl) (fun _ _ _ h => h) (Or.inr ⟨by rfl, rfl⟩) (by assumption) ?_
                try simp only [Act.put, List.setIfInBounds_toArray, List.set_cons_zero, List.set_cons_succ]
                refine wpAnyH_take (i := 14) (oi := ⟨some 156, .binOp .eql 32 (.tmp 154) (.tmp 155) 32, 4, "law.go:166", #[⟨12, .data⟩, ⟨13, .data⟩, ⟨7, .guard⟩], some (7, false)⟩) (v := undef) rfl (by kernel_rfl) (by kernel_rfl) (by kernel_rfl) (fun _ _ _ h => h) (Or.inr ⟨by rfl, rfl⟩) (by assumption) ?_
                try simp only [Act.put, List.setIfInBounds_toArray, List.set_cons_zero, List.set_cons_succ]
                refine wpAnyH_take (i := 15) (oi := ⟨some 157, .pick (.tmp 149) (.const (.bool true)) (.tmp 156), 4, "law.go:166", #[⟨7, .data⟩, ⟨14, .data⟩], none⟩) (v := .bool true) rfl (by kernel_rfl) (by kernel_rfl) (by kernel_rfl) (fun _ _ _ h => h) (Or.inl ⟨by rfl, fun w hSw => by go_simp⟩) (by assumption) ?_
                try simp only [Act.put, List.setIfInBounds_toArray, List.set_cons_zero, List.set_cons_succ]
                refine wpAnyH_done (by kernel_rfl) ?_ _
                try unfold NoPanic
                have HD := Lib.hid (HB.out.trans (hHeld.mono HB.out.size))
                clear hHeld
                go_wp2
                go_roundw
                case rel => exact ⟨i + 1, by omega, by omega, by go_num, by go_num, HD⟩
                case measure => simp [intOf]; omega
              · rw [htt] at hcs
                have hcast : ((x + 96 : Nat) : Int) = (x : Int) + 96 := by omega
                have HPC : Hid (PX wo g7 (i * 7) (pa : Int) (pn : Int) (s : Int) ((x : Int) + 96)) := Lib.hid ⟨(HTW5.out.gc _).trans (hcs 0 (by decide)), (HTW5.out.gc _).trans (hcs 1 (by decide)), (HTW5.out.gc _).trans (hcs 2 (by decide)), (HTW5.out.gc _).trans (hcs 3 (by decide)), (HTW5.out.gc _).trans (hcs 4 (by decide)), (HTW5.out.gc _).trans (hcs 5 (by decide)), by rw [← hcast]; exact (HTW5.out.gc _).trans (hcs 6 (by decide))⟩
                clear hcs htt hcast
                unfold PX at HPC
                go_upto_region 33 with (fail)
                clear d0 d1 hbl
                refine wp_region_noPanic ?_
                refine wp_region_held_drew (S := fun y9 : World => Below wr.heap.size wr y9) (by kernel_rfl) ((Below.refl _ _).drew) (fun hHeld => ?_)
                generalize wr.drew = wd at *
                refine wpAnyH_take (i := 0) (oi := ⟨some 142, .fieldAddr 36 (.tmp 15) 1, 0, "law.go:166", #[], none⟩) (v := .pointer (some ⟨by9, 1, none⟩)) rfl (by kernel_rfl) (by kernel_rfl) (by kernel_rfl) (fun _ _ _ h => h) (Or.inl ⟨by rfl, fun w hSw => by go_simp⟩) (by assumption) ?_
                try simp only [Act.put, List.setIfInBounds_toArray, List.set_cons_zero, List.set_cons_succ]
                refine wpAnyH_take (i := 1) (oi := ⟨some 143, .load 34 (.tmp 142), 34, "law.go:166", #[⟨0, .data⟩], none⟩) (v := .slice (some ⟨g7, 0, none⟩) 5 c7) rfl (by kernel_rfl) (by kernel_rfl) (by kernel_rfl) (fun _ _ _ h => h) (Or.inl ⟨by rfl, fun w hSw => by obtain ⟨d0, d1, -⟩ := row2 (brow hSw (brow HB.out HBY.out)); have hbl := (Array.getElem?_eq_some_iff.1 (brow hSw (brow HB.out HBY.out))).1; go_simp⟩) (by assumption) ?_
                try simp only [Act.put, List.setIfInBounds_toArray, List.set_cons_zero, List.set_cons_succ]
                refine wpAnyH_take (i := 2) (oi := ⟨some 144, .move (.tmp 21), 3, "law.go:166", #[], none⟩) (v := .int .i64 (i : Int)) rfl (by kernel_rfl) (by kernel_rfl) (by kernel_rfl) (fun _ _ _ h => h) (Or.inl ⟨by rfl, fun w hSw => by go_simp⟩) (by assumption) ?_
                try simp only [Act.put, List.setIfInBounds_toArray, List.set_cons_zero, List.set_cons_succ]
                refine wpAnyH_take (i := 3) (oi := ⟨some 145, .indexAddr 34 (.tmp 143) (.tmp 144), 0, "law.go:166", #[⟨1, .data⟩, ⟨2, .data⟩], none⟩) (v := .pointer (some ⟨g7, i * 7, none⟩)) rfl (by kernel_rfl) (by kernel_rfl) (by kernel_rfl) (fun _ _ _ h => h) (Or.inl ⟨by rfl, fun w hSw => by go_simp⟩) (by assumption) ?_
                try simp only [Act.put, List.setIfInBounds_toArray, List.set_cons_zero, List.set_cons_succ]
                refine wpAnyH_take (i := 4) (oi := ⟨some 146, .load 32 (.tmp 145), 32, "law.go:166", #[⟨3, .data⟩], none⟩) (v := .agg #[.int .u8 3, .int .u64 0, .int .i64 0, .int .u32 (pa : Int), .int .u8 (pn : Int), .int .u16 (s : Int), .int .u16 ((x : Int) + 96)]) rfl (by kernel_rfl) (by kernel_rfl) (by kernel_rfl) (fun _ _ _ h => h) (Or.inl ⟨by rfl, fun w hSw => by have hb := Ser.bcell (HB.out.trans (hSw.mono HB.out.size)); obtain ⟨k0, k1, k2, k3, k4, k5, k6⟩ := HPC.out; have hgl := Nat.lt_of_lt_of_le (Nat.lt_of_lt_of_le HGL.out HB.out.size) hSw.size; rw [← hb.1 _ _ HGL.out] at k0 k1 k2 k3 k4 k5 k6; go_simp⟩) (by assumption) ?_
                try simp only [Act.put, List.setIfInBounds_toArray, List.set_cons_zero, List.set_cons_succ]
                refine wpAnyH_take (i := 5) (oi := ⟨some 147, .load 32 (.tmp 18), 32, "law.go:166", #[], none⟩) (v := .agg #[.int .u8 3, .int .u64 0, .int .i64 0, .int .u32 201326592, .int .u8 24, .int .u16 1, .int .u16 65535]) rfl (by kernel_rfl) (by kernel_rfl) (by kernel_rfl) (fun _ _ _ h => h) (Or.inl ⟨by rfl, fun w hSw => by obtain ⟨m0, m1, m2, m3, m4, m5, m6, -⟩ := row7 (brow hSw (brow HB.out HBM.out)); have hml := (Array.getElem?_eq_some_iff.1 (brow hSw (brow HB.out HBM.out))).1; go_simp⟩) (by assumption) ?_
                try simp only [Act.put, List.setIfInBounds_toArray, List.set_cons_zero, List.set_cons_succ]
                refine wpAnyH_take (i := 6) (oi := ⟨some 148, .binOp .eql 32 (.tmp 146) (.tmp 147) 32, 4, "law.go:166", #[⟨4, .data⟩, ⟨5, .data⟩], none⟩) (v := .bool false) rfl (by kernel_rfl) (by kernel_rfl) (by kernel_rfl) (fun _ _ _ h => h) (Or.inl ⟨by rfl, fun w hSw => by have hp9 := HPO.out; go_simp⟩) (by assumption) ?_
                try simp only [Act.put, List.setIfInBounds_toArray, List.set_cons_zero, List.set_cons_succ]
                refine wpAnyH_take (i := 7) (oi := ⟨some 149, .move (.tmp 148), 4, "law.go:166", #[⟨6, .data⟩], none⟩) (v := .bool false) rfl (by kernel_rfl) (by kernel_rfl) (by kernel_rfl) (fun _ _ _ h => h) (Or.inl ⟨by rfl, fun w hSw => by go_simp⟩) (by assumption) ?_
                try simp only [Act.put, List.setIfInBounds_toArray, List.set_cons_zero, List.set_cons_succ]
                refine wpAnyH_take (i := 8) (oi := ⟨some 150, .fieldAddr 36 (.tmp 15) 1, 0, "law.go:166", #[⟨7, .guard⟩], some (7, false)⟩) (v := .pointer (some ⟨by9, 1, none⟩)) rfl (by kernel_rfl) (by kernel_rfl) (by kernel_rfl) (fun _ _ _ h => h) (Or.inl ⟨by rfl, fun w hSw => by go_simp⟩) (by assumption) ?_
                try simp only [Act.put, List.setIfInBounds_toArray, List.set_cons_zero, List.set_cons_succ]
                refine wpAnyH_take (i := 9) (oi := ⟨some 151, .load 34 (.tmp 150), 34, "law.go:166", #[⟨8, .data⟩, ⟨7, .guard⟩], some (7, false)⟩) (v := .slice (some ⟨g7, 0, none⟩) 5 c7) rfl (by kernel_rfl) (by kernel_rfl) (by kernel_rfl) (fun _ _ _ h => h) (Or.inl ⟨by rfl, fun w hSw => by obtain ⟨d0, d1, -⟩ := row2 (brow hSw (brow HB.out HBY.out)); have hbl := (Array.getElem?_eq_some_iff.1 (brow hSw (brow HB.out HBY.out))).1; go_simp⟩) (by assumption) ?_
                try simp only [Act.put, List.setIfInBounds_toArray, List.set_cons_zero, List.set_cons_succ]
                refine wpAnyH_take (i := 10) (oi := ⟨some 152, .move (.tmp 21), 3, "law.go:166", #[⟨7, .guard⟩], some (7, false)⟩) (v := .int .i64 (i : Int)) rfl (by kernel_rfl) (by kernel_rfl) (by kernel_rfl) (fun _ _ _ h => h) (Or.inl ⟨by rfl, fun w hSw => by go_simp⟩) (by assumption) ?_
                try simp only [Act.put, List.setIfInBounds_toArray, List.set_cons_zero, List.set_cons_succ]
                refine wpAnyH_take (i := 11) (oi := ⟨some 153, .indexAddr 34 (.tmp 151) (.tmp 152), 0, "law.go:166", #[⟨9, .data⟩, ⟨10, .data⟩, ⟨7, .guard⟩], some (7, false)⟩) (v := .pointer (some ⟨g7, i * 7, none⟩)) rfl (by kernel_rfl) (by kernel_rfl) (by kernel_rfl) (fun _ _ _ h => h) (Or.inl ⟨by rfl, fun w hSw => by go_simp⟩) (by assumption) ?_
                try simp only [Act.put, List.setIfInBounds_toArray, List.set_cons_zero, List.set_cons_succ]
                refine wpAnyH_take (i := 12) (oi := ⟨some 154, .load 32 (.tmp 153), 32, "law.go:166", #[⟨11, .data⟩, ⟨7, .guard⟩], some (7, false)⟩) (v := .agg #[.int .u8 3, .int .u64 0, .int .i64 0, .int .u32 (pa : Int), .int .u8 (pn : Int), .int .u16 (s : Int), .int .u16 ((x : Int) + 96)]) rfl (by kernel_rfl) (by kernel_rfl) (by kernel_rfl) (fun _ _ _ h => h) (Or.inl ⟨by rfl, fun w hSw => by have hb := Ser.bcell (HB.out.trans (hSw.mono HB.out.size)); obtain ⟨k0, k1, k2, k3, k4, k5, k6⟩ := HPC.out; have hgl := Nat.lt_of_lt_of_le (Nat.lt_of_lt_of_le HGL.out HB.out.size) hSw.size; rw [← hb.1 _ _ HGL.out] at k0 k1 k2 k3 k4 k5 k6; go_simp⟩) (by assumption) ?_
                try simp only [Act.put, List.setIfInBounds_toArray, List.set_cons_zero, List.set_cons_succ]
                refine wpAnyH_take (i := 13) (oi := ⟨some 155, .load 32 (.tmp 19), 32, "law.go:166", #[⟨7, .guard⟩], some (7, false)⟩) (v := .agg #[.int .u8 3, .int .u64 0, .int .i64 0, .int .u32 (pa : Int), .int .u8 (pn : Int), .int .u16 (s : Int), .int .u16 ((x : Int) + 96)]) rfl (by kernel_rfl) (by kernel_rfl) (by kernel_rfl) (fun _ _ _ h => h) (Or.inl ⟨by rfl, fun w hSw => by obtain ⟨m0, m1, m2, m3, m4, m5, m6, -⟩ := row7 (brow hSw (brow HB.out HBT.out)); have hml := (Array.getElem?_eq_some_iff.1 (brow hSw (brow HB.out HBT.out))).1; go_simp⟩) (by assumption) ?_
                try simp only [Act.put, List.setIfInBounds_toArray, List.set_cons_zero, List.set_cons_succ]
                refine wpAnyH_take (i := 14) (oi := ⟨some 156, .binOp .eql 32 (.tmp 154) (.tmp 155) 32, 4, "law.go:166", #[⟨12, .data⟩, ⟨13, .data⟩, ⟨7, .guard⟩], some (7, false)⟩) (v := .bool true) rfl (by kernel_rfl) (by kernel_rfl) (by kernel_rfl) (fun _ _ _ h => h) (Or.inl ⟨by rfl, fun w hSw => by go_simp⟩) (by assumption) ?_
                try simp only [Act.put, List.setIfInBounds_toArray, List.set_cons_zero, List.set_cons_succ]
                refine wpAnyH_take (i := 15) (oi := ⟨some 157, .pick (.tmp 149) (.const (.bool true)) (.tmp 156), 4, "law.go:166", #[⟨7, .data⟩, ⟨14, .data⟩], none⟩) (v := .bool true) rfl (by kernel_rfl) (by kernel_rfl) (by kernel_rfl) (fun _ _ _ h => h) (Or.inl ⟨by rfl, fun w hSw => by go_simp⟩) (by assumption) ?_
                try simp only [Act.put, List.setIfInBounds_toArray, List.set_cons_zero, List.set_cons_succ]
                refine wpAnyH_done (by kernel_rfl) ?_ _
                try unfold NoPanic
                have HD := Lib.hid (HB.out.trans (hHeld.mono HB.out.size))
                clear hHeld
                go_wp2
                go_roundw
                case rel => exact ⟨i + 1, by omega, by omega, by go_num, by go_num, HD⟩
                case measure => simp [intOf]; omega
            · obtain rfl : i = 5 := by omega
              go_wp2
              go_ret
              exact ⟨rfl, H1.out.trans ((HTW5.out.step HB.out).b.mono H1.out.size)⟩
        · have HP := Lib.hid hp
          have hpi : (((now : Int) % 2) == 0) = false := by simp; omega
          clear hp
          have HTF : Hid (∀ w1 W q e rb, LW w1 W q e [(rb, #[.int .u32 (pa : Int), .int .u8 (pn : Int), .bool false, .int .u32 0, .int .u8 0, .int .i64 0, .int .u16 0, .int .u16 0, .int .u16 (s : Int), .int .u16 ((x : Int) + 96)], 62)] → (St 96 96 p (Eg.one (pA p) (pN p) 1 s x 2) (some (s, x + 96)) 3 1 2 e ∧ e.he = 0 ∧ e.rq = [] ∧ e.due = true ∧ e.lost = [] ∧ (e.ch = [oR, (⟨pa, pn, 1, x + 96, s⟩ : Ro)] ∨ e.ch = [(⟨pa, pn, 1, x + 96, s⟩ : Ro), oR])) → Calls Tryz.prog 24 #[.pointer (some ⟨q, 0, none⟩), .int .u64 (now : Int), .slice (some ⟨rb, 0, none⟩) 1 1] W fun en w' => ∃ g7 c7 t1 t2, en = .returned (.tuple #[.agg #[.int .i64 0, .slice (some ⟨g7, 0, none⟩) 2 c7], .bool true]) ∧ 2 ≤ c7 ∧ Below w1.heap.size w1 w' ∧ g7 < w'.heap.size ∧ (∀ j (hj : j < ([] ++ [t1, t2]).length), ∀ i, i < 7 → w'.cell? ⟨g7, j * 7 + i, none⟩ = (Pt.cl (([] : List Pt) ++ [t1, t2])[j])[i]?) ∧ ((t1 = mineP ∧ t2 = (⟨3, 0, 0, pa, pn, s, x + 96⟩ : Pt)) ∨ (t1 = (⟨3, 0, 0, pa, pn, s, x + 96⟩ : Pt) ∧ t2 = mineP))) := Lib.hid fun w1 W q e rb h hQ => by
            have hpr : e.upds [(⟨pa, pn, false, 0, 0, 0, 0, 0, s, x + 96⟩ : Rw)] = [mineP, (⟨3, 0, 0, pa, pn, s, x + 96⟩ : Pt)] ∨ e.upds [(⟨pa, pn, false, 0, 0, 0, 0, 0, s, x + 96⟩ : Rw)] = [(⟨3, 0, 0, pa, pn, s, x + 96⟩ : Pt), mineP] := upds_two hQ.1.met.id hQ.2.2.2.2.1 hQ.2.2.2.2.2 (x + 96) (x + 96) hpo (by first | exact (if_pos (by omega)).symm | exact (if_neg (by omega)).symm)
            have htp := tellP_is hQ.1.met hQ.2.1 hQ.2.2.1 hQ.2.2.2.1 now [(⟨pa, pn, false, 0, 0, 0, 0, 0, s, x + 96⟩ : Rw)]
            rw [if_neg HP.out] at htp
            have hne : e.tellP now [(⟨pa, pn, false, 0, 0, 0, 0, 0, s, x + 96⟩ : Rw)] ≠ [] := by
              rw [htp]
              rcases hpr with h9 | h9 <;> rw [h9] <;> simp
            have hcast : ((x + 96 : Nat) : Int) = (x : Int) + 96 := by omega
            have hrow : W.heap[rb]? = some (.cells (Rw.cl (⟨pa, pn, false, 0, 0, 0, 0, 0, s, x + 96⟩ : Rw)).toArray 62 (0, 0)) := by
              have h9 := h.row (List.mem_cons_self ..)
              rw [← hcast] at h9
              exact h9
            have hc := tell_lw0 h (by rw [hQ.2.1]; decide) (by rw [hQ.2.2.2.2.1]; decide) now (some ⟨rb, 0, none⟩) 1 1 [(⟨pa, pn, false, 0, 0, 0, 0, 0, s, x + 96⟩ : Rw)] rfl (by decide) (gsl_row hrow) (Or.inr ⟨rb, _, rfl, List.mem_cons_self ..⟩) hne
            refine hc.mono ?_
            rintro en w' ⟨g, c, rfl, hle, hg, hcs, hL⟩
            rw [hQ.1.met.id]
            rw [htp] at hle hcs ⊢
            rcases hpr with h9 | h9
            · rw [h9] at hle hcs ⊢
              exact ⟨g, c, _, _, rfl, hle, hL.b, hg, hcs, Or.inl ⟨rfl, rfl⟩⟩
            · rw [h9] at hle hcs ⊢
              exact ⟨g, c, _, _, rfl, hle, hL.b, hg, hcs, Or.inr ⟨rfl, rfl⟩⟩
          go_upto_region 13 with (go_at_call 19; (with_reducible refine (CP.out _).mono ?_); rintro en wg ⟨rfl, hB⟩; have HLg := Lib.hid (HL7.out.step hB); clear hB HL7)
          have HLh := Lib.hid (HLg.out.add #[.int .u32 (pa : Int), .int .u8 (pn : Int), .bool false, .int .u32 0, .int .u8 0, .int .i64 0, .int .u16 0, .int .u16 0, .int .u16 (s : Int), .int .u16 ((x : Int) + 97)] 62)
          have HRBW := Lib.hid HLg.out.b.size
          clear HLg
          generalize World.alloc wg _ = wh at *
          generalize wg.heap.size = rb at *
          have hrow := HLh.out.row (List.mem_cons_self ..)
          have c9 := cell_of_row wh rb 9 _ 62 (0, 0) hrow
          have f9 := frozen_of_row wh rb 9 _ 62 hrow
          have hrl := (Array.getElem?_eq_some_iff.1 hrow).1
          have HLi := Lib.hid (HLh.out.set HRBW.out (fun k hk => by cases hk) 9 (.int .u16 ((x : Int) + 96)))
          clear hrow HLh
          go_upto_region 15 with (fail)
          clear c9 f9 hrl
          generalize World.setCell _ _ _ = wi at *
          go_upto_region 16 with (go_at_call 24; (with_reducible refine (HTF.out _ _ _ _ _ HLi.out HQ7.out).mono ?_); rintro en wt ⟨g7, c7, t1, t2, rfl, hc7, hB, hg, hcs, hpr⟩; have HT7 := Lib.hid (And.intro hB (And.intro hg (And.intro hcs hpr))); clear hB hg hcs hpr HLi HTF HQ7)
          have BY := (Below.refl wt.heap.size wt).alloc (Nat.le_refl _) (.cells #[.int .i64 0, .slice (some ⟨g7, 0, none⟩) 2 c7] 36)
          have HTW : Hid (TW w1 wt g7 wt.heap.size #[.int .i64 0, .slice (some ⟨g7, 0, none⟩) 2 c7] (wt.alloc (.cells #[.int .i64 0, .slice (some ⟨g7, 0, none⟩) 2 c7] 36))) := Lib.hid ⟨HT7.out.1.trans (BY.mono HT7.out.1.size), ⟨HT7.out.1.size, BY.size⟩, HT7.out.2.1, fun o => (Ser.bcell BY).1 g7 o HT7.out.2.1, heap_alloc_new wt _⟩
          clear BY
          generalize wt.alloc _ = wy at *
          generalize hby : wt.heap.size = by9 at HTW
          have HBY9 := Lib.hid hby
          clear hby
          obtain ⟨d0, d1, -⟩ := row2 HTW.out.y
          have hbl := (Array.getElem?_eq_some_iff.1 HTW.out.y).1
          go_upto_region 23 with (fail)
          clear d0 d1 hbl
          go_upto_region 24 with (go_at_call 25; (with_reducible refine (own_call _).mono ?_); rintro en wz ⟨z, rfl, hS, hR, B⟩; have HTW2 := Lib.hid (HTW.out.step B); obtain ⟨q0, q1, -⟩ := row2 hR; have hzl := (Array.getElem?_eq_some_iff.1 hR).1; clear hS hR B HTW)
          clear q0 q1 hzl
          have BM := (Below.refl wz.heap.size wz).alloc (Nat.le_refl _) (.cells #[.int .u8 3, .int .u64 0, .int .i64 0, .int .u32 201326592, .int .u8 24, .int .u16 1, .int .u16 65535] 32)
          have HTW3 := Lib.hid (HTW2.out.step BM)
          have HM3 := Lib.hid (heap_alloc_new wz (.cells #[.int .u8 3, .int .u64 0, .int .i64 0, .int .u32 201326592, .int .u8 24, .int .u16 1, .int .u16 65535] 32))
          clear BM HTW2
          generalize wz.alloc _ = wm at *
          generalize wz.heap.size = bm at *
          go_upto_region 25 with (go_at_call 19; (with_reducible refine (CP.out _).mono ?_); rintro en wn ⟨rfl, hB⟩; have HTW4 := Lib.hid (HTW3.out.step hB); have HM4 := Lib.hid (brow hB HM3.out); clear hB HTW3 HM3)
          have BM := (Below.refl wn.heap.size wn).alloc (Nat.le_refl _) (.cells #[.int .u8 3, .int .u64 0, .int .i64 0, .int .u32 (pa : Int), .int .u8 (pn : Int), .int .u16 (s : Int), .int .u16 ((x : Int) + 96)] 32)
          have HTW5 := Lib.hid (HTW4.out.step BM)
          have HM5 := Lib.hid (brow BM HM4.out)
          have HR5 := Lib.hid (heap_alloc_new wn (.cells #[.int .u8 3, .int .u64 0, .int .i64 0, .int .u32 (pa : Int), .int .u8 (pn : Int), .int .u16 (s : Int), .int .u16 ((x : Int) + 96)] 32))
          have HBT5 := Lib.hid (And.intro HTW4.out.t.2 (show bm ≠ wn.heap.size from fun e9 => absurd (Array.getElem?_eq_some_iff.1 HM4.out).1 (by rw [e9]; exact Nat.lt_irrefl _)))
          clear BM HTW4 HM4
          generalize wn.alloc _ = wo at *
          generalize wn.heap.size = bt at *
          go_upto_region 27 with (fail)
          go_upto_region 29 with (fail)
          have HPO : Hid (((pa : Int) == 201326592) = false) := Lib.hid (by simp; omega)
          have HBM := HM5
          have HBT := HR5
          have HBY := Lib.hid HTW5.out.y
          have HGL := Lib.hid (Nat.lt_of_lt_of_le HTW5.out.g HTW5.out.t.2)
          obtain ⟨d0, d1, -⟩ := row2 HBY.out
          have hbl := (Array.getElem?_eq_some_iff.1 HBY.out).1
          go_wp2
          go_loopw [20, 21] (fun nv iv wr => ∃ i : Nat, 0 ≤ i ∧ i ≤ 2 ∧ iv = .int .i64 i ∧ nv = .int .i64 ((i : Int) - 0) ∧ Hid (Below wo.heap.size wo wr)) (fun _ iv _ => 2 - (intOf iv).toNat)
          case atStart => exact ⟨0, by decide, by decide, rfl, rfl, Lib.hid (Below.refl _ _)⟩
          case round =>
            obtain ⟨i, hi0, hi, rfl, rfl, HB⟩ := hrel
            obtain ⟨d0, d1, -⟩ := row2 (brow HB.out HBY.out)
            have hbl := (Array.getElem?_eq_some_iff.1 (brow HB.out HBY.out)).1
            by_cases hlt : i < 2
            · have hcs := HT7.out.2.2.1 i (by simp; omega)
              have htt : ((([] : List Pt) ++ [t1, t2])[i]'(by simp; omega)) = mineP ∨ ((([] : List Pt) ++ [t1, t2])[i]'(by simp; omega)) = (⟨3, 0, 0, pa, pn, s, x + 96⟩ : Pt) := by
                have hii : i = 0 ∨ i = 1 := by omega
                rcases hii with rfl | rfl <;> rcases HT7.out.2.2.2 with ⟨h8, h9⟩ | ⟨h8, h9⟩ <;> subst h8 h9
                · exact Or.inl rfl
                · exact Or.inr rfl
                · exact Or.inr rfl
                · exact Or.inl rfl
              rcases htt with htt | htt
              · rw [htt] at hcs
                have HPC : Hid (PX wo g7 (i * 7) 201326592 24 1 65535) := Lib.hid ⟨(HTW5.out.gc _).trans (hcs 0 (by decide)), (HTW5.out.gc _).trans (hcs 1 (by decide)), (HTW5.out.gc _).trans (hcs 2 (by decide)), (HTW5.out.gc _).trans (hcs 3 (by decide)), (HTW5.out.gc _).trans (hcs 4 (by decide)), (HTW5.out.gc _).trans (hcs 5 (by decide)), (HTW5.out.gc _).trans (hcs 6 (by decide))⟩
                clear hcs htt
                unfold PX at HPC
                go_upto_region 33 with (fail)
                clear d0 d1 hbl
                refine wp_region_noPanic ?_
                refine wp_region_held_drew (S := fun y9 : World => Below wr.heap.size wr y9) (by kernel_rfl) ((Below.refl _ _).drew) (fun hHeld => ?_)
                generalize wr.drew = wd at *
                refine wpAnyH_take (i := 0) (oi := ⟨some 142, .fieldAddr 36 (.tmp 15) 1, 0, "law.go:166", #[], none⟩) (v := .pointer (some ⟨by9, 1, none⟩)) rfl (by kernel_rfl) (by kernel_rfl) (by kernel_rfl) (fun _ _ _ h => h) (Or.inl ⟨by rfl, fun w hSw => by go_simp⟩) (by assumption) ?_
                try simp only [Act.put, List.setIfInBounds_toArray, List.set_cons_zero, List.set_cons_succ]
                refine wpAnyH_take (i := 1) (oi := ⟨some 143, .load 34 (.tmp 142), 34, "law.go:166", #[⟨0, .data⟩], none⟩) (v := .slice (some ⟨g7, 0, none⟩) 2 c7) rfl (by kernel_rfl) (by kernel_rfl) (by kernel_rfl) (fun _ _ _ h => h) (Or.inl ⟨by rfl, fun w hSw => by obtain ⟨d0, d1, -⟩ := row2 (brow hSw (brow HB.out HBY.out)); have hbl := (Array.getElem?_eq_some_iff.1 (brow hSw (brow HB.out HBY.out))).1; go_simp⟩) (by assumption) ?_
                try simp only [Act.put, List.setIfInBounds_toArray, List.set_cons_zero, List.set_cons_succ]
                refine wpAnyH_take (i := 2) (oi := ⟨some 144, .move (.tmp 21), 3, "law.go:166", #[], none⟩) (v := .int .i64 (i : Int)) rfl (by kernel_rfl) (by kernel_rfl) (by kernel_rfl) (fun _ _ _ h => h) (Or.inl ⟨by rfl, fun w hSw => by go_simp⟩) (by assumption) ?_
                try simp only [Act.put, List.setIfInBounds_toArray, List.set_cons_zero, List.set_cons_succ]
                refine wpAnyH_take (i := 3) (oi := ⟨some 145, .indexAddr 34 (.tmp 143) (.tmp 144), 0, "law.go:166", #[⟨1, .data⟩, ⟨2, .data⟩], none⟩) (v := .pointer (some ⟨g7, i * 7, none⟩)) rfl (by kernel_rfl) (by kernel_rfl) (by kernel_rfl) (fun _ _ _ h => h) (Or.inl ⟨by rfl, fun w hSw => by go_simp⟩) (by assumption) ?_
                try simp only [Act.put, List.setIfInBounds_toArray, List.set_cons_zero, List.set_cons_succ]
                refine wpAnyH_take (i := 4) (oi := ⟨some 146, .load 32 (.tmp 145), 32, "law.go:166", #[⟨3, .data⟩], none⟩) (v := .agg #[.int .u8 3, .int .u64 0, .int .i64 0, .int .u32 201326592, .int .u8 24, .int .u16 1, .int .u16 65535]) rfl (by kernel_rfl) (by kernel_rfl) (by kernel_rfl) (fun _ _ _ h => h) (Or.inl ⟨by rfl, fun w hSw => by have hb := Ser.bcell (HB.out.trans (hSw.mono HB.out.size)); obtain ⟨k0, k1, k2, k3, k4, k5, k6⟩ := HPC.out; have hgl := Nat.lt_of_lt_of_le (Nat.lt_of_lt_of_le HGL.out HB.out.size) hSw.size; rw [← hb.1 _ _ HGL.out] at k0 k1 k2 k3 k4 k5 k6; go_simp⟩) (by assumption) ?_
                try simp only [Act.put, List.setIfInBounds_toArray, List.set_cons_zero, List.set_cons_succ]
                refine wpAnyH_take (i := 5) (oi := ⟨some 147, .load 32 (.tmp 18), 32, "law.go:166", #[], none⟩) (v := .agg #[.int .u8 3, .int .u64 0, .int .i64 0, .int .u32 201326592, .int .u8 24, .int .u16 1, .int .u16 65535]) rfl (by kernel_rfl) (by kernel_rfl) (by kernel_rfl) (fun _ _ _ h => h) (Or.inl ⟨by rfl, fun w hSw => by obtain ⟨m0, m1, m2, m3, m4, m5, m6, -⟩ := row7 (brow hSw (brow HB.out HBM.out)); have hml := (Array.getElem?_eq_some_iff.1 (brow hSw (brow HB.out HBM.out))).1; go_simp⟩) (by assumption) ?_
                try simp only [Act.put, List.setIfInBounds_toArray, List.set_cons_zero, List.set_cons_succ]
                refine wpAnyH_take (i := 6) (oi := ⟨some 148, .binOp .eql 32 (.tmp 146) (.tmp 147) 32, 4, "law.go:166", #[⟨4, .data⟩, ⟨5, .data⟩], none⟩) (v := .bool true) rfl (by kernel_rfl) (by kernel_rfl) (by kernel_rfl) (fun _ _ _ h => h) (Or.inl ⟨by rfl, fun w hSw => by go_simp⟩) (by assumption) ?_
                try simp only [Act.put, List.setIfInBounds_toArray, List.set_cons_zero, List.set_cons_succ]
                refine wpAnyH_take (i := 7) (oi := ⟨some 149, .move (.tmp 148), 4, "law.go:166", #[⟨6, .data⟩], none⟩) (v := .bool true) rfl (by kernel_rfl) (by kernel_rfl) (by kernel_rfl) (fun _ _ _ h => h) (Or.inl ⟨by rfl, fun w hSw => by go_simp⟩) (by assumption) ?_
                try simp only [Act.put, List.setIfInBounds_toArray, List.set_cons_zero, List.set_cons_succ]
                refine wpAnyH_take (i := 8) (oi := ⟨some 150, .fieldAddr 36 (.tmp 15) 1, 0, "law.go:166", #[⟨7, .guard⟩], some (7, false)⟩) (v := undef) rfl (by kernel_rfl) (by kernel_rfl) (by kernel_rfl) (fun _ _ _ h => h) (Or.inr ⟨by rfl, rfl⟩) (by assumption) ?_
                try simp only [Act.put, List.setIfInBounds_toArray, List.set_cons_zero, List.set_cons_succ]
                refine wpAnyH_take (i := 9) (oi := ⟨some 151, .load 34 (.tmp 150), 34, "law.go:166", #[⟨8, .data⟩, ⟨7, .guard⟩], some (7, false)⟩) (v := undef) rfl (by kernel_rfl) (by kernel_rfl) (by kernel_rfl) (fun _ _ _ h => h) (Or.inr ⟨by rfl, rfl⟩) (by assumption) ?_
                try simp only [Act.put, List.setIfInBounds_toArray, List.set_cons_zero, List.set_cons_succ]
                refine wpAnyH_take (i := 10) (oi := ⟨some 152, .move (.tmp 21), 3, "law.go:166", #[⟨7, .guard⟩], some (7, false)⟩) (v := undef) rfl (by kernel_rfl) (by kernel_rfl) (by kernel_rfl) (fun _ _ _ h => h) (Or.inr ⟨by rfl, rfl⟩) (by assumption) ?_
                try simp only [Act.put, List.setIfInBounds_toArray, List.set_cons_zero, List.set_cons_succ]
                refine wpAnyH_take (i := 11) (oi := ⟨some 153, .indexAddr 34 (.tmp 151) (.tmp 152), 0, "law.go:166", #[⟨9, .data⟩, ⟨10, .data⟩, ⟨7, .guard⟩], some (7, false)⟩) (v := undef) rfl (by kernel_rfl) (by kernel_rfl) (by kernel_rfl) (fun _ _ _ h => h) (Or.inr ⟨by rfl, rfl⟩) (by assumption) ?_
                try simp only [Act.put, List.setIfInBounds_toArray, List.set_cons_zero, List.set_cons_succ]
                refine wpAnyH_take (i := 12) (oi := ⟨some 154, .load 32 (.tmp 153), 32, "law.go:166", #[⟨11, .data⟩, ⟨7, .guard⟩], some (7, false)⟩) (v := undef) rfl (by kernel_rfl) (by kernel_rfl) (by kernel_rfl) (fun _ _ _ h => h) (Or.inr ⟨by rfl, rfl⟩) (by assumption) ?_
                try simp only [Act.put, List.setIfInBounds_toArray, List.set_cons_zero, List.set_cons_succ]
                refine wpAnyH_take (i := 13) (oi := ⟨some 155, .load 32 (.tmp 19), 32, "law.go:166", #[⟨7, .guard⟩], some (7, false)⟩) (v := undef) rfl (by kernel_rfl) (by kernel_rfl) (by kernel_rfl) (fun _ _ _ h => h) (Or.inr ⟨by rfl, rfl⟩) (by assumption) ?_
                try simp only [Act.put, List.setIfInBounds_toArray, List.set_cons_zero, List.set_cons_succ]
                refine wpAnyH_take (i := 14) (oi := ⟨some 156, .binOp .eql 32 (.tmp 154) (.tmp 155) 32, 4, "law.go:166", #[⟨12, .data⟩, ⟨13, .data⟩, ⟨7, .guard⟩], some (7, false)⟩) (v := undef) rfl (by kernel_rfl) (by kernel_rfl) (by kernel_rfl) (fun _ _ _ h => h) (Or.inr ⟨by rfl, rfl⟩) (by assumption) ?_
                try simp only [Act.put, List.setIfInBounds_toArray, List.set_cons_zero, List.set_cons_succ]
                refine wpAnyH_take (i := 15) (oi := ⟨some 157, .pick (.tmp 149) (.const (.bool true)) (.tmp 156), 4, "law.go:166", #[⟨7, .data⟩, ⟨14, .data⟩], none⟩) (v := .bool true) rfl (by kernel_rfl) (by kernel_rfl) (by kernel_rfl) (fun _ _ _ h => h) (Or.inl ⟨by rfl, fun w hSw => by go_simp⟩) (by assumption) ?_
                try simp only [Act.put, List.setIfInBounds_toArray, List.set_cons_zero, List.set_cons_succ]
                refine wpAnyH_done (by kernel_rfl) ?_ _
                try unfold NoPanic
                have HD := Lib.hid (HB.out.trans (hHeld.mono HB.out.size))
                clear hHeld
                go_wp2
                go_roundw
                case rel => exact ⟨i + 1, by omega, by omega, by go_num, by go_num, HD⟩
                case measure => simp [intOf]; omega
              · rw [htt] at hcs
                have hcast : ((x + 96 : Nat) : Int) = (x : Int) + 96 := by omega
                have HPC : Hid (PX wo g7 (i * 7) (pa : Int) (pn : Int) (s : Int) ((x : Int) + 96)) := Lib.hid ⟨(HTW5.out.gc _).trans (hcs 0 (by decide)), (HTW5.out.gc _).trans (hcs 1 (by decide)), (HTW5.out.gc _).trans (hcs 2 (by decide)), (HTW5.out.gc _).trans (hcs 3 (by decide)), (HTW5.out.gc _).trans (hcs 4 (by decide)), (HTW5.out.gc _).trans (hcs 5 (by decide)), by rw [← hcast]; exact (HTW5.out.gc _).trans (hcs 6 (by decide))⟩
                clear hcs htt hcast
                unfold PX at HPC
                go_upto_region 33 with (fail)
                clear d0 d1 hbl
                refine wp_region_noPanic ?_
                refine wp_region_held_drew (S := fun y9 : World => Below wr.heap.size wr y9) (by kernel_rfl) ((Below.refl _ _).drew) (fun hHeld => ?_)
                generalize wr.drew = wd at *
                refine wpAnyH_take (i := 0) (oi := ⟨some 142, .fieldAddr 36 (.tmp 15) 1, 0, "law.go:166", #[], none⟩) (v := .pointer (some ⟨by9, 1, none⟩)) rfl (by kernel_rfl) (by kernel_rfl) (by kernel_rfl) (fun _ _ _ h => h) (Or.inl ⟨by rfl, fun w hSw => by go_simp⟩) (by assumption) ?_
                try simp only [Act.put, List.setIfInBounds_toArray, List.set_cons_zero, List.set_cons_succ]
                refine wpAnyH_take (i := 1) (oi := ⟨some 143, .load 34 (.tmp 142), 34, "law.go:166", #[⟨0, .data⟩], none⟩) (v := .slice (some ⟨g7, 0, none⟩) 2 c7) rfl (by kernel_rfl) (by kernel_rfl) (by kernel_rfl) (fun _ _ _ h => h) (Or.inl ⟨by rfl, fun w hSw => by obtain ⟨d0, d1, -⟩ := row2 (brow hSw (brow HB.out HBY.out)); have hbl := (Array.getElem?_eq_some_iff.1 (brow hSw (brow HB.out HBY.out))).1; go_simp⟩) (by assumption) ?_
                try simp only [Act.put, List.setIfInBounds_toArray, List.set_cons_zero, List.set_cons_succ]
                refine wpAnyH_take (i := 2) (oi := ⟨some 144, .move (.tmp 21), 3, "law.go:166", #[], none⟩) (v := .int .i64 (i : Int)) rfl (by kernel_rfl) (by kernel_rfl) (by kernel_rfl) (fun _ _ _ h => h) (Or.inl ⟨by rfl, fun w hSw => by go_simp⟩) (by assumption) ?_
                try simp only [Act.put, List.setIfInBounds_toArray, List.set_cons_zero, List.set_cons_succ]
                refine wpAnyH_take (i := 3) (oi := ⟨some 145, .indexAddr 34 (.tmp 143) (.tmp 144), 0, "law.go:166", #[⟨1, .data⟩, ⟨2, .data⟩], none⟩) (v := .pointer (some ⟨g7, i * 7, none⟩)) rfl (by kernel_rfl) (by kernel_rfl) (by kernel_rfl) (fun _ _ _ h => h) (Or.inl ⟨by rfl, fun w hSw => by go_simp⟩) (by assumption) ?_
                try simp only [Act.put, List.setIfInBounds_toArray, List.set_cons_zero, List.set_cons_succ]
                refine wpAnyH_take (i := 4) (oi := ⟨some 146, .load 32 (.tmp 145), 32, "law.go:166", #[⟨3, .data⟩], none⟩) (v := .agg #[.int .u8 3, .int .u64 0, .int .i64 0, .int .u32 (pa : Int), .int .u8 (pn : Int), .int .u16 (s : Int), .int .u16 ((x : Int) + 96)]) rfl (by kernel_rfl) (by kernel_rfl) (by kernel_rfl) (fun _ _ _ h => h) (Or.inl ⟨by rfl, fun w hSw => by have hb := Ser.bcell (HB.out.trans (hSw.mono HB.out.size)); obtain ⟨k0, k1, k2, k3, k4, k5, k6⟩ := HPC.out; have hgl := Nat.lt_of_lt_of_le (Nat.lt_of_lt_of_le HGL.out HB.out.size) hSw.size; rw [← hb.1 _ _ HGL.out] at k0 k1 k2 k3 k4 k5 k6; go_simp⟩) (by assumption) ?_
                try simp only [Act.put, List.setIfInBounds_toArray, List.set_cons_zero, List.set_cons_succ]
                refine wpAnyH_take (i := 5) (oi := ⟨some 147, .load 32 (.tmp 18), 32, "law.go:166", #[], none⟩) (v := .agg #[.int .u8 3, .int .u64 0, .int .i64 0, .int .u32 201326592, .int .u8 24, .int .u16 1, .int .u16 65535]) rfl (by kernel_rfl) (by kernel_rfl) (by kernel_rfl) (fun _ _ _ h => h) (Or.inl ⟨by rfl, fun w hSw => by obtain ⟨m0, m1, m2, m3, m4, m5, m6, -⟩ := row7 (brow hSw (brow HB.out HBM.out)); have hml := (Array.getElem?_eq_some_iff.1 (brow hSw (brow HB.out HBM.out))).1; go_simp⟩) (by assumption) ?_
                try simp only [Act.put, List.setIfInBounds_toArray, List.set_cons_zero, List.set_cons_succ]
                refine wpAnyH_take (i := 6) (oi := ⟨some 148, .binOp .eql 32 (.tmp 146) (.tmp 147) 32, 4, "law.go:166", #[⟨4, .data⟩, ⟨5, .data⟩], none⟩) (v := .bool false) rfl (by kernel_rfl) (by kernel_rfl) (by kernel_rfl) (fun _ _ _ h => h) (Or.inl ⟨by rfl, fun w hSw => by have hp9 := HPO.out; go_simp⟩) (by assumption) ?_
                try simp only [Act.put, List.setIfInBounds_toArray, List.set_cons_zero, List.set_cons_succ]
                refine wpAnyH_take (i := 7) (oi := ⟨some 149, .move (.tmp 148), 4, "law.go:166", #[⟨6, .data⟩], none⟩) (v := .bool false) rfl (by kernel_rfl) (by kernel_rfl) (by kernel_rfl) (fun _ _ _ h => h) (Or.inl ⟨by rfl, fun w hSw => by go_simp⟩) (by assumption) ?_
                try simp only [Act.put, List.setIfInBounds_toArray, List.set_cons_zero, List.set_cons_succ]
                refine wpAnyH_take (i := 8) (oi := ⟨some 150, .fieldAddr 36 (.tmp 15) 1, 0, "law.go:166", #[⟨7, .guard⟩], some (7, false)⟩) (v := .pointer (some ⟨by9, 1, none⟩)) rfl (by kernel_rfl) (by kernel_rfl) (by kernel_rfl) (fun _ _ _ h => h) (Or.inl ⟨by rfl, fun w hSw => by go_simp⟩) (by assumption) ?_
                try simp only [Act.put, List.setIfInBounds_toArray, List.set_cons_zero, List.set_cons_succ]
                refine wpAnyH_take (i := 9) (oi := ⟨some 151, .load 34 (.tmp 150), 34, "law.go:166", #[⟨8, .data⟩, ⟨7, .guard⟩], some (7, false)⟩) (v := .slice (some ⟨g7, 0, none⟩) 2 c7) rfl (by kernel_rfl) (by kernel_rfl) (by kernel_rfl) (fun _ _ _ h => h) (Or.inl ⟨by rfl, fun w hSw => by obtain ⟨d0, d1, -⟩ := row2 (brow hSw (brow HB.out HBY.out)); have hbl := (Array.getElem?_eq_some_iff.1 (brow hSw (brow HB.out HBY.out))).1; go_simp⟩) (by assumption) ?_
                try simp only [Act.put, List.setIfInBounds_toArray, List.set_cons_zero, List.set_cons_succ]
                refine wpAnyH_take (i := 10) (oi := ⟨some 152, .move (.tmp 21), 3, "law.go:166", #[⟨7, .guard⟩], some (7, false)⟩) (v := .int .i64 (i : Int)) rfl (by kernel_rfl) (by kernel_rfl) (by kernel_rfl) (fun _ _ _ h => h) (Or.inl ⟨by rfl, fun w hSw => by go_simp⟩) (by assumption) ?_
                try simp only [Act.put, List.setIfInBounds_toArray, List.set_cons_zero, List.set_cons_succ]
                refine wpAnyH_take (i := 11) (oi := ⟨some 153, .indexAddr 34 (.tmp 151) (.tmp 152), 0, "law.go:166", #[⟨9, .data⟩, ⟨10, .data⟩, ⟨7, .guard⟩], some (7, false)⟩) (v := .pointer (some ⟨g7, i * 7, none⟩)) rfl (by kernel_rfl) (by kernel_rfl) (by kernel_rfl) (fun _ _ _ h => h) (Or.inl ⟨by rfl, fun w hSw => by go_simp⟩) (by assumption) ?_
                try simp only [Act.put, List.setIfInBounds_toArray, List.set_cons_zero, List.set_cons_succ]
                refine wpAnyH_take (i := 12) (oi := ⟨some 154, .load 32 (.tmp 153), 32, "law.go:166", #[⟨11, .data⟩, ⟨7, .guard⟩], some (7, false)⟩) (v := .agg #[.int .u8 3, .int .u64 0, .int .i64 0, .int .u32 (pa : Int), .int .u8 (pn : Int), .int .u16 (s : Int), .int .u16 ((x : Int) + 96)]) rfl (by kernel_rfl) (by kernel_rfl) (by kernel_rfl) (fun _ _ _ h => h) (Or.inl ⟨by rfl, fun w hSw => by have hb := Ser.bcell (HB.out.trans (hSw.mono HB.out.size)); obtain ⟨k0, k1, k2, k3, k4, k5, k6⟩ := HPC.out; have hgl := Nat.lt_of_lt_of_le (Nat.lt_of_lt_of_le HGL.out HB.out.size) hSw.size; rw [← hb.1 _ _ HGL.out] at k0 k1 k2 k3 k4 k5 k6; go_simp⟩) (by assumption) ?_
                try simp only [Act.put, List.setIfInBounds_toArray, List.set_cons_zero, List.set_cons_succ]
                refine wpAnyH_take (i := 13) (oi := ⟨some 155, .load 32 (.tmp 19), 32, "law.go:166", #[⟨7, .guard⟩], some (7, false)⟩) (v := .agg #[.int .u8 3, .int .u64 0, .int .i64 0, .int .u32 (pa : Int), .int .u8 (pn : Int), .int .u16 (s : Int), .int .u16 ((x : Int) + 96)]) rfl (by kernel_rfl) (by kernel_rfl) (by kernel_rfl) (fun _ _ _ h => h) (Or.inl ⟨by rfl, fun w hSw => by obtain ⟨m0, m1, m2, m3, m4, m5, m6, -⟩ := row7 (brow hSw (brow HB.out HBT.out)); have hml := (Array.getElem?_eq_some_iff.1 (brow hSw (brow HB.out HBT.out))).1; go_simp⟩) (by assumption) ?_
                try simp only [Act.put, List.setIfInBounds_toArray, List.set_cons_zero, List.set_cons_succ]
                refine wpAnyH_take (i := 14) (oi := ⟨some 156, .binOp .eql 32 (.tmp 154) (.tmp 155) 32, 4, "law.go:166", #[⟨12, .data⟩, ⟨13, .data⟩, ⟨7, .guard⟩], some (7, false)⟩) (v := .bool true) rfl (by kernel_rfl) (by kernel_rfl) (by kernel_rfl) (fun _ _ _ h => h) (Or.inl ⟨by rfl, fun w hSw => by go_simp⟩) (by assumption) ?_
                try simp only [Act.put, List.setIfInBounds_toArray, List.set_cons_zero, List.set_cons_succ]
                refine wpAnyH_take (i := 15) (oi := ⟨some 157, .pick (.tmp 149) (.const (.bool true)) (.tmp 156), 4, "law.go:166", #[⟨7, .data⟩, ⟨14, .data⟩], none⟩) (v := .bool true) rfl (by kernel_rfl) (by kernel_rfl) (by kernel_rfl) (fun _ _ _ h => h) (Or.inl ⟨by rfl, fun w hSw => by go_simp⟩) (by assumption) ?_
                try simp only [Act.put, List.setIfInBounds_toArray, List.set_cons_zero, List.set_cons_succ]
                refine wpAnyH_done (by kernel_rfl) ?_ _
                try unfold NoPanic
                have HD := Lib.hid (HB.out.trans (hHeld.mono HB.out.size))
                clear hHeld
                go_wp2
                go_roundw
                case rel => exact ⟨i + 1, by omega, by omega, by go_num, by go_num, HD⟩
                case measure => simp [intOf]; omega
            · obtain rfl : i = 2 := by omega
              go_wp2
              go_ret
              exact ⟨rfl, H1.out.trans ((HTW5.out.step HB.out).b.mono H1.out.size)⟩
      | false =>
        by_cases hp : now % 2 = 0
        · have HP := Lib.hid hp
          have hpi : (((now : Int) % 2) == 0) = true := by simp; omega
          clear hp
          have HTF : Hid (∀ w1 W q e rb, LW w1 W q e [(rb, #[.int .u32 (pa : Int), .int .u8 (pn : Int), .bool false, .int .u32 0, .int .u8 0, .int .i64 0, .int .u16 0, .int .u16 0, .int .u16 (s : Int), .int .u16 ((x : Int) + 97)], 62)] → (St 96 96 p (Eg.one (pA p) (pN p) 1 s x 2) (some (s, x + 96)) 3 1 2 e ∧ e.he = 0 ∧ e.rq = [] ∧ e.due = true ∧ e.lost = [] ∧ (e.ch = [oR, (⟨pa, pn, 1, x + 96, s⟩ : Ro)] ∨ e.ch = [(⟨pa, pn, 1, x + 96, s⟩ : Ro), oR])) → Calls Tryz.prog 24 #[.pointer (some ⟨q, 0, none⟩), .int .u64 (now : Int), .slice (some ⟨rb, 0, none⟩) 1 1] W fun en w' => ∃ g7 c7 t1 t2, en = .returned (.tuple #[.agg #[.int .i64 0, .slice (some ⟨g7, 0, none⟩) 5 c7], .bool true]) ∧ 5 ≤ c7 ∧ Below w1.heap.size w1 w' ∧ g7 < w'.heap.size ∧ (∀ j (hj : j < (hP ++ [t1, t2]).length), ∀ i, i < 7 → w'.cell? ⟨g7, j * 7 + i, none⟩ = (Pt.cl ((hP : List Pt) ++ [t1, t2])[j])[i]?) ∧ ((t1 = mineP ∧ t2 = (⟨3, 0, 0, pa, pn, s, 65535⟩ : Pt)) ∨ (t1 = (⟨3, 0, 0, pa, pn, s, 65535⟩ : Pt) ∧ t2 = mineP))) := Lib.hid fun w1 W q e rb h hQ => by
            have hpr : e.upds [(⟨pa, pn, false, 0, 0, 0, 0, 0, s, x + 97⟩ : Rw)] = [mineP, (⟨3, 0, 0, pa, pn, s, 65535⟩ : Pt)] ∨ e.upds [(⟨pa, pn, false, 0, 0, 0, 0, 0, s, x + 97⟩ : Rw)] = [(⟨3, 0, 0, pa, pn, s, 65535⟩ : Pt), mineP] := upds_two hQ.1.met.id hQ.2.2.2.2.1 hQ.2.2.2.2.2 (x + 97) (65535) hpo (by first | exact (if_pos (by omega)).symm | exact (if_neg (by omega)).symm)
            have htp := tellP_is hQ.1.met hQ.2.1 hQ.2.2.1 hQ.2.2.2.1 now [(⟨pa, pn, false, 0, 0, 0, 0, 0, s, x + 97⟩ : Rw)]
            rw [if_pos HP.out] at htp
            have hne : e.tellP now [(⟨pa, pn, false, 0, 0, 0, 0, 0, s, x + 97⟩ : Rw)] ≠ [] := by
              rw [htp]
              rcases hpr with h9 | h9 <;> rw [h9] <;> simp
            have hcast : ((x + 97 : Nat) : Int) = (x : Int) + 97 := by omega
            have hrow : W.heap[rb]? = some (.cells (Rw.cl (⟨pa, pn, false, 0, 0, 0, 0, 0, s, x + 97⟩ : Rw)).toArray 62 (0, 0)) := by
              have h9 := h.row (List.mem_cons_self ..)
              rw [← hcast] at h9
              exact h9
            have hc := tell_lw0 h (by rw [hQ.2.1]; decide) (by rw [hQ.2.2.2.2.1]; decide) now (some ⟨rb, 0, none⟩) 1 1 [(⟨pa, pn, false, 0, 0, 0, 0, 0, s, x + 97⟩ : Rw)] rfl (by decide) (gsl_row hrow) (Or.inr ⟨rb, _, rfl, List.mem_cons_self ..⟩) hne
            refine hc.mono ?_
            rintro en w' ⟨g, c, rfl, hle, hg, hcs, hL⟩
            rw [hQ.1.met.id]
            rw [htp] at hle hcs ⊢
            rcases hpr with h9 | h9
            · rw [h9] at hle hcs ⊢
              exact ⟨g, c, _, _, rfl, hle, hL.b, hg, hcs, Or.inl ⟨rfl, rfl⟩⟩
            · rw [h9] at hle hcs ⊢
              exact ⟨g, c, _, _, rfl, hle, hL.b, hg, hcs, Or.inr ⟨rfl, rfl⟩⟩
          go_upto_region 13 with (go_at_call 19; (with_reducible refine (CP.out _).mono ?_); rintro en wg ⟨rfl, hB⟩; have HLg := Lib.hid (HL7.out.step hB); clear hB HL7)
          have HLh := Lib.hid (HLg.out.add #[.int .u32 (pa : Int), .int .u8 (pn : Int), .bool false, .int .u32 0, .int .u8 0, .int .i64 0, .int .u16 0, .int .u16 0, .int .u16 (s : Int), .int .u16 ((x : Int) + 97)] 62)
          have HRBW := Lib.hid HLg.out.b.size
          clear HLg
          generalize World.alloc wg _ = wh at *
          generalize wg.heap.size = rb at *
          go_upto_region 15 with (fail)
          have HLi := HLh
          clear HLh
          go_upto_region 16 with (go_at_call 24; (with_reducible refine (HTF.out _ _ _ _ _ HLi.out HQ7.out).mono ?_); rintro en wt ⟨g7, c7, t1, t2, rfl, hc7, hB, hg, hcs, hpr⟩; have HT7 := Lib.hid (And.intro hB (And.intro hg (And.intro hcs hpr))); clear hB hg hcs hpr HLi HTF HQ7)
          have BY := (Below.refl wt.heap.size wt).alloc (Nat.le_refl _) (.cells #[.int .i64 0, .slice (some ⟨g7, 0, none⟩) 5 c7] 36)
          have HTW : Hid (TW w1 wt g7 wt.heap.size #[.int .i64 0, .slice (some ⟨g7, 0, none⟩) 5 c7] (wt.alloc (.cells #[.int .i64 0, .slice (some ⟨g7, 0, none⟩) 5 c7] 36))) := Lib.hid ⟨HT7.out.1.trans (BY.mono HT7.out.1.size), ⟨HT7.out.1.size, BY.size⟩, HT7.out.2.1, fun o => (Ser.bcell BY).1 g7 o HT7.out.2.1, heap_alloc_new wt _⟩
          clear BY
          generalize wt.alloc _ = wy at *
          generalize hby : wt.heap.size = by9 at HTW
          have HBY9 := Lib.hid hby
          clear hby
          obtain ⟨d0, d1, -⟩ := row2 HTW.out.y
          have hbl := (Array.getElem?_eq_some_iff.1 HTW.out.y).1
          have hgl := Nat.lt_of_lt_of_le HTW.out.g HTW.out.t.2
          have p0 : wy.cell? ⟨g7, 0, none⟩ = some (.int .u8 1) := (HTW.out.gc 0).trans (HT7.out.2.2.1 0 (by simp [hP]) 0 (by decide))
          have p7 : wy.cell? ⟨g7, 7, none⟩ = some (.int .u8 2) := (HTW.out.gc 7).trans (HT7.out.2.2.1 1 (by simp [hP]) 0 (by decide))
          have p8 : wy.cell? ⟨g7, 8, none⟩ = some (.int .u64 0) := (HTW.out.gc 8).trans (HT7.out.2.2.1 1 (by simp [hP]) 1 (by decide))
          have p9 : wy.cell? ⟨g7, 9, none⟩ = some (.int .i64 1) := (HTW.out.gc 9).trans (HT7.out.2.2.1 1 (by simp [hP]) 2 (by decide))
          have p10 : wy.cell? ⟨g7, 10, none⟩ = some (.int .u32 0) := (HTW.out.gc 10).trans (HT7.out.2.2.1 1 (by simp [hP]) 3 (by decide))
          have p11 : wy.cell? ⟨g7, 11, none⟩ = some (.int .u8 0) := (HTW.out.gc 11).trans (HT7.out.2.2.1 1 (by simp [hP]) 4 (by decide))
          have p12 : wy.cell? ⟨g7, 12, none⟩ = some (.int .u16 0) := (HTW.out.gc 12).trans (HT7.out.2.2.1 1 (by simp [hP]) 5 (by decide))
          have p13 : wy.cell? ⟨g7, 13, none⟩ = some (.int .u16 96) := (HTW.out.gc 13).trans (HT7.out.2.2.1 1 (by simp [hP]) 6 (by decide))
          have p14 : wy.cell? ⟨g7, 14, none⟩ = some (.int .u8 2) := (HTW.out.gc 14).trans (HT7.out.2.2.1 2 (by simp [hP]) 0 (by decide))
          have p15 : wy.cell? ⟨g7, 15, none⟩ = some (.int .u64 0) := (HTW.out.gc 15).trans (HT7.out.2.2.1 2 (by simp [hP]) 1 (by decide))
          have p16 : wy.cell? ⟨g7, 16, none⟩ = some (.int .i64 2) := (HTW.out.gc 16).trans (HT7.out.2.2.1 2 (by simp [hP]) 2 (by decide))
          have p17 : wy.cell? ⟨g7, 17, none⟩ = some (.int .u32 0) := (HTW.out.gc 17).trans (HT7.out.2.2.1 2 (by simp [hP]) 3 (by decide))
          have p18 : wy.cell? ⟨g7, 18, none⟩ = some (.int .u8 0) := (HTW.out.gc 18).trans (HT7.out.2.2.1 2 (by simp [hP]) 4 (by decide))
          have p19 : wy.cell? ⟨g7, 19, none⟩ = some (.int .u16 0) := (HTW.out.gc 19).trans (HT7.out.2.2.1 2 (by simp [hP]) 5 (by decide))
          have p20 : wy.cell? ⟨g7, 20, none⟩ = some (.int .u16 96) := (HTW.out.gc 20).trans (HT7.out.2.2.1 2 (by simp [hP]) 6 (by decide))
          go_upto_region 23 with (fail)
          clear d0 d1 hbl p0 hgl p7 p8 p9 p10 p11 p12 p13 p14 p15 p16 p17 p18 p19 p20
          go_upto_region 24 with (go_at_call 25; (with_reducible refine (own_call _).mono ?_); rintro en wz ⟨z, rfl, hS, hR, B⟩; have HTW2 := Lib.hid (HTW.out.step B); obtain ⟨q0, q1, -⟩ := row2 hR; have hzl := (Array.getElem?_eq_some_iff.1 hR).1; clear hS hR B HTW)
          clear q0 q1 hzl
          have BM := (Below.refl wz.heap.size wz).alloc (Nat.le_refl _) (.cells #[.int .u8 3, .int .u64 0, .int .i64 0, .int .u32 201326592, .int .u8 24, .int .u16 1, .int .u16 65535] 32)
          have HTW3 := Lib.hid (HTW2.out.step BM)
          have HM3 := Lib.hid (heap_alloc_new wz (.cells #[.int .u8 3, .int .u64 0, .int .i64 0, .int .u32 201326592, .int .u8 24, .int .u16 1, .int .u16 65535] 32))
          clear BM HTW2
          generalize wz.alloc _ = wm at *
          generalize wz.heap.size = bm at *
          go_upto_region 25 with (go_at_call 19; (with_reducible refine (CP.out _).mono ?_); rintro en wn ⟨rfl, hB⟩; have HTW4 := Lib.hid (HTW3.out.step hB); have HM4 := Lib.hid (brow hB HM3.out); clear hB HTW3 HM3)
          have BM := (Below.refl wn.heap.size wn).alloc (Nat.le_refl _) (.cells #[.int .u8 3, .int .u64 0, .int .i64 0, .int .u32 (pa : Int), .int .u8 (pn : Int), .int .u16 (s : Int), .int .u16 ((x : Int) + 96)] 32)
          have HTW5 := Lib.hid (HTW4.out.step BM)
          have HM5 := Lib.hid (brow BM HM4.out)
          have HR5 := Lib.hid (heap_alloc_new wn (.cells #[.int .u8 3, .int .u64 0, .int .i64 0, .int .u32 (pa : Int), .int .u8 (pn : Int), .int .u16 (s : Int), .int .u16 ((x : Int) + 96)] 32))
          have HBT5 := Lib.hid (And.intro HTW4.out.t.2 (show bm ≠ wn.heap.size from fun e9 => absurd (Array.getElem?_eq_some_iff.1 HM4.out).1 (by rw [e9]; exact Nat.lt_irrefl _)))
          clear BM HTW4 HM4
          generalize wn.alloc _ = wo at *
          generalize wn.heap.size = bt at *
          have c6 := cell_of_row wo bt 6 _ 32 (0, 0) HR5.out
          have f6 := frozen_of_row wo bt 6 _ 32 HR5.out
          have hrl := (Array.getElem?_eq_some_iff.1 HR5.out).1
          go_upto_region 27 with (fail)
          clear c6 f6 hrl
          have F6 : Fr (fun k => k = bt) wo (wo.setCell ⟨bt, 6, none⟩ (.int .u16 65535)) := Fr.grown (grown_setCell wo bt 6 _) (fun k e => (Option.some.inj e).symm)
          have HTW6 := Lib.hid (HTW5.out.set HBT5.out.1 HR5.out 6 (.int .u16 65535))
          have HM6 := Lib.hid (F6.row HM5.out HBT5.out.2)
          have HR6 : Hid ((wo.setCell ⟨bt, 6, none⟩ (.int .u16 65535)).heap[bt]? = some (.cells #[.int .u8 3, .int .u64 0, .int .i64 0, .int .u32 (pa : Int), .int .u8 (pn : Int), .int .u16 (s : Int), .int .u16 65535] 32 (0, 0))) := Lib.hid (by have := heap_setCell_same wo bt 6 _ 32 (.int .u16 65535) HR5.out; simpa using this)
          clear F6 HTW5 HM5 HR5
          generalize World.setCell _ _ _ = wp at *
          go_upto_region 29 with (fail)
          have HPO : Hid (((pa : Int) == 201326592) = false) := Lib.hid (by simp; omega)
          have HBM := HM6
          have HBT := HR6
          have HBY := Lib.hid HTW6.out.y
          have HGL := Lib.hid (Nat.lt_of_lt_of_le HTW6.out.g HTW6.out.t.2)
          obtain ⟨d0, d1, -⟩ := row2 HBY.out
          have hbl := (Array.getElem?_eq_some_iff.1 HBY.out).1
          go_wp2
          go_loopw [20, 21] (fun nv iv wr => ∃ i : Nat, 3 ≤ i ∧ i ≤ 5 ∧ iv = .int .i64 i ∧ nv = .int .i64 ((i : Int) - 3) ∧ Hid (Below wp.heap.size wp wr)) (fun _ iv _ => 5 - (intOf iv).toNat)
          case atStart => exact ⟨3, by decide, by decide, rfl, rfl, Lib.hid (Below.refl _ _)⟩
          case round =>
            obtain ⟨i, hi0, hi, rfl, rfl, HB⟩ := hrel
            obtain ⟨d0, d1, -⟩ := row2 (brow HB.out HBY.out)
            have hbl := (Array.getElem?_eq_some_iff.1 (brow HB.out HBY.out)).1
            by_cases hlt : i < 5
            · have hcs := HT7.out.2.2.1 i (by simp [hP]; omega)
              have htt : (((hP : List Pt) ++ [t1, t2])[i]'(by simp [hP]; omega)) = mineP ∨ (((hP : List Pt) ++ [t1, t2])[i]'(by simp [hP]; omega)) = (⟨3, 0, 0, pa, pn, s, 65535⟩ : Pt) := by
                have hii : i = 3 ∨ i = 4 := by omega
                rcases hii with rfl | rfl <;> rcases HT7.out.2.2.2 with ⟨h8, h9⟩ | ⟨h8, h9⟩ <;> subst h8 h9
                · exact Or.inl rfl
                · exact Or.inr rfl
                · exact Or.inr rfl
                · exact Or.inl rfl
              rcases htt with htt | htt
              · rw [htt] at hcs
                have HPC : Hid (PX wp g7 (i * 7) 201326592 24 1 65535) := Lib.hid ⟨(HTW6.out.gc _).trans (hcs 0 (by decide)), (HTW6.out.gc _).trans (hcs 1 (by decide)), (HTW6.out.gc _).trans (hcs 2 (by decide)), (HTW6.out.gc _).trans (hcs 3 (by decide)), (HTW6.out.gc _).trans (hcs 4 (by decide)), (HTW6.out.gc _).trans (hcs 5 (by decide)), (HTW6.out.gc _).trans (hcs 6 (by decide))⟩
                clear hcs htt
                unfold PX at HPC
                go_upto_region 33 with (fail)
                clear d0 d1 hbl
                refine wp_region_noPanic ?_
                refine wp_region_held_drew (S := fun y9 : World => Below wr.heap.size wr y9) (by kernel_rfl) ((Below.refl _ _).drew) (fun hHeld => ?_)
                generalize wr.drew = wd at *
                refine wpAnyH_take (i := 0) (oi := ⟨some 142, .fieldAddr 36 (.tmp 15) 1, 0, "law.go:166", #[], none⟩) (v := .pointer (some ⟨by9, 1, none⟩)) rfl (by kernel_rfl) (by kernel_rfl) (by kernel_rfl) (fun _ _ _ h => h) (Or.inl ⟨by rfl, fun w hSw => by go_simp⟩) (by assumption) ?_
                try simp only [Act.put, List.setIfInBounds_toArray, List.set_cons_zero, List.set_cons_succ]
                refine wpAnyH_take (i := 1) (oi := ⟨some 143, .load 34 (.tmp 142), 34, "law.go:166", #[⟨0, .data⟩], none⟩) (v := .slice (some ⟨g7, 0, none⟩) 5 c7) rfl (by kernel_rfl) (by kernel_rfl) (by kernel_rfl) (fun _ _ _ h => h) (Or.inl ⟨by rfl, fun w hSw => by obtain ⟨d0, d1, -⟩ := row2 (brow hSw (brow HB.out HBY.out)); have hbl := (Array.getElem?_eq_some_iff.1 (brow hSw (brow HB.out HBY.out))).1; go_simp⟩) (by assumption) ?_
                try simp only [Act.put, List.setIfInBounds_toArray, List.set_cons_zero, List.set_cons_succ]
                refine wpAnyH_take (i := 2) (oi := ⟨some 144, .move (.tmp 21), 3, "law.go:166", #[], none⟩) (v := .int .i64 (i : Int)) rfl (by kernel_rfl) (by kernel_rfl) (by kernel_rfl) (fun _ _ _ h => h) (Or.inl ⟨by rfl, fun w hSw => by go_simp⟩) (by assumption) ?_
                try simp only [Act.put, List.setIfInBounds_toArray, List.set_cons_zero, List.set_cons_succ]
                refine wpAnyH_take (i := 3) (oi := ⟨some 145, .indexAddr 34 (.tmp 143) (.tmp 144), 0, "law.go:166", #[⟨1, .data⟩, ⟨2, .data⟩], none⟩) (v := .pointer (some ⟨g7, i * 7, none⟩)) rfl (by kernel_rfl) (by kernel_rfl) (by kernel_rfl) (fun _ _ _ h => h) (Or.inl ⟨by rfl, fun w hSw => by go_simp⟩) (by assumption) ?_
                try simp only [Act.put, List.setIfInBounds_toArray, List.set_cons_zero, List.set_cons_succ]
                refine wpAnyH_take (i := 4) (oi := ⟨some 146, .load 32 (.tmp 145), 32, "law.go:166", #[⟨3, .data⟩], none⟩) (v := .agg #[.int .u8 3, .int .u64 0, .int .i64 0, .int .u32 201326592, .int .u8 24, .int .u16 1, .int .u16 65535]) rfl (by kernel_rfl) (by kernel_rfl) (by kernel_rfl) (fun _ _ _ h => h) (Or.inl ⟨by rfl, fun w hSw => by have hb := Ser.bcell (HB.out.trans (hSw.mono HB.out.size)); obtain ⟨k0, k1, k2, k3, k4, k5, k6⟩ := HPC.out; have hgl := Nat.lt_of_lt_of_le (Nat.lt_of_lt_of_le HGL.out HB.out.size) hSw.size; rw [← hb.1 _ _ HGL.out] at k0 k1 k2 k3 k4 k5 k6; go_simp⟩) (by assumption) ?_
                try simp only [Act.put, List.setIfInBounds_toArray, List.set_cons_zero, List.set_cons_succ]
                refine wpAnyH_take (i := 5) (oi := ⟨some 147, .load 32 (.tmp 18), 32, "law.go:166", #[], none⟩) (v := .agg #[.int .u8 3, .int .u64 0, .int .i64 0, .int .u32 201326592, .int .u8 24, .int .u16 1, .int .u16 65535]) rfl (by kernel_rfl) (by kernel_rfl) (by kernel_rfl) (fun _ _ _ h => h) (Or.inl ⟨by rfl, fun w hSw => by obtain ⟨m0, m1, m2, m3, m4, m5, m6, -⟩ := row7 (brow hSw (brow HB.out HBM.out)); have hml := (Array.getElem?_eq_some_iff.1 (brow hSw (brow HB.out HBM.out))).1; go_simp⟩) (by assumption) ?_
                try simp only [Act.put, List.setIfInBounds_toArray, List.set_cons_zero, List.set_cons_succ]
                refine wpAnyH_take (i := 6) (oi := ⟨some 148, .binOp .eql 32 (.tmp 146) (.tmp 147) 32, 4, "law.go:166", #[⟨4, .data⟩, ⟨5, .data⟩], none⟩) (v := .bool true) rfl (by kernel_rfl) (by kernel_rfl) (by kernel_rfl) (fun _ _ _ h => h) (Or.inl ⟨by rfl, fun w hSw => by go_simp⟩) (by assumption) ?_
                try simp only [Act.put, List.setIfInBounds_toArray, List.set_cons_zero, List.set_cons_succ]
                refine wpAnyH_take (i := 7) (oi := ⟨some 149, .move (.tmp 148), 4, "law.go:166", #[⟨6, .data⟩], none⟩) (v := .bool true) rfl (by kernel_rfl) (by kernel_rfl) (by kernel_rfl) (fun _ _ _ h => h) (Or.inl ⟨by rfl, fun w hSw => by go_simp⟩) (by assumption) ?_
                try simp only [Act.put, List.setIfInBounds_toArray, List.set_cons_zero, List.set_cons_succ]
                refine wpAnyH_take (i := 8) (oi := ⟨some 150, .fieldAddr 36 (.tmp 15) 1, 0, "law.go:166", #[⟨7, .guard⟩], some (7, false)⟩) (v := undef) rfl (by kernel_rfl) (by kernel_rfl) (by kernel_rfl) (fun _ _ _ h => h) (Or.inr ⟨by rfl, rfl⟩) (by assumption) ?_
                try simp only [Act.put, List.setIfInBounds_toArray, List.set_cons_zero, List.set_cons_succ]
                refine wpAnyH_take (i := 9) (oi := ⟨some 151, .load 34 (.tmp 150), 34, "law.go:166", #[⟨8, .data⟩, ⟨7, .guard⟩], some (7, false)⟩) (v := undef) rfl (by kernel_rfl) (by kernel_rfl) (by kernel_rfl) (fun _ _ _ h => h) (Or.inr ⟨by rfl, rfl⟩) (by assumption) ?_
                try simp only [Act.put, List.setIfInBounds_toArray, List.set_cons_zero, List.set_cons_succ]
                refine wpAnyH_take (i := 10) (oi := ⟨some 152, .move (.tmp 21), 3, "law.go:166", #[⟨7, .guard⟩], some (7, false)⟩) (v := undef) rfl (by kernel_rfl) (by kernel_rfl) (by kernel_rfl) (fun _ _ _ h => h) (Or.inr ⟨by rfl, rfl⟩) (by assumption) ?_
                try simp only [Act.put, List.setIfInBounds_toArray, List.set_cons_zero, List.set_cons_succ]
                refine wpAnyH_take (i := 11) (oi := ⟨some 153, .indexAddr 34 (.tmp 151) (.tmp 152), 0, "law.go:166", #[⟨9, .data⟩, ⟨10, .data⟩, ⟨7, .guard⟩], some (7, false)⟩) (v := undef) rfl (by kernel_rfl) (by kernel_rfl) (by kernel_rfl) (fun _ _ _ h => h) (Or.inr ⟨by rfl, rfl⟩) (by assumption) ?_
                try simp only [Act.put, List.setIfInBounds_toArray, List.set_cons_zero, List.set_cons_succ]
                refine wpAnyH_take (i := 12) (oi := ⟨some 154, .load 32 (.tmp 153), 32, "law.go:166", #[⟨11, .data⟩, ⟨7, .guard⟩], some (7, false)⟩) (v := undef) rfl (by kernel_rfl) (by kernel_rfl) (by kernel_rfl) (fun _ _ _ h => h) (Or.inr ⟨by rfl, rfl⟩) (by assumption) ?_
                try simp only [Act.put, List.setIfInBounds_toArray, List.set_cons_zero, List.set_cons_succ]
                refine wpAnyH_take (i := 13) (oi := ⟨some 155, .load 32 (.tmp 19), 32, "law.go:166", #[⟨7, .guard⟩], some (7, false)⟩) (v := undef) rfl (by kernel_rfl) (by kernel_rfl) (by kernel_rfl) (fun _ _ _ h => h) (Or.inr ⟨by rfl, rfl⟩) (by assumption) ?_
                try simp only [Act.put, List.setIfInBounds_toArray, List.set_cons_zero, List.set_cons_succ]
                refine wpAnyH_take (i := 14) (oi := ⟨some 156, .binOp .eql 32 (.tmp 154) (.tmp 155) 32, 4, "law.go:166", #[⟨12, .data⟩, ⟨13, .data⟩, ⟨7, .guard⟩], some (7, false)⟩) (v := undef) rfl (by kernel_rfl) (by kernel_rfl) (by kernel_rfl) (fun _ _ _ h => h) (Or.inr ⟨by rfl, rfl⟩) (by assumption) ?_
                try simp only [Act.put, List.setIfInBounds_toArray, List.set_cons_zero, List.set_cons_succ]
                refine wpAnyH_take (i := 15) (oi := ⟨some 157, .pick (.tmp 149) (.const (.bool true)) (.tmp 156), 4, "law.go:166", #[⟨7, .data⟩, ⟨14, .data⟩], none⟩) (v := .bool true) rfl (by kernel_rfl) (by kernel_rfl) (by kernel_rfl) (fun _ _ _ h => h) (Or.inl ⟨by rfl, fun w hSw => by go_simp⟩) (by assumption) ?_
                try simp only [Act.put, List.setIfInBounds_toArray, List.set_cons_zero, List.set_cons_succ]
                refine wpAnyH_done (by kernel_rfl) ?_ _
                try unfold NoPanic
                have HD := Lib.hid (HB.out.trans (hHeld.mono HB.out.size))
                clear hHeld
                go_wp2
                go_roundw
                case rel => exact ⟨i + 1, by omega, by omega, by go_num, by go_num, HD⟩
                case measure => simp [intOf]; omega
              · rw [htt] at hcs
                have hcast : ((x + 96 : Nat) : Int) = (x : Int) + 96 := by omega
                have HPC : Hid (PX wp g7 (i * 7) (pa : Int) (pn : Int) (s : Int) 65535) := Lib.hid ⟨(HTW6.out.gc _).trans (hcs 0 (by decide)), (HTW6.out.gc _).trans (hcs 1 (by decide)), (HTW6.out.gc _).trans (hcs 2 (by decide)), (HTW6.out.gc _).trans (hcs 3 (by decide)), (HTW6.out.gc _).trans (hcs 4 (by decide)), (HTW6.out.gc _).trans (hcs 5 (by decide)), (HTW6.out.gc _).trans (hcs 6 (by decide))⟩
                clear hcs htt hcast
                unfold PX at HPC
                go_upto_region 33 with (fail)
                clear d0 d1 hbl
                refine wp_region_noPanic ?_
                refine wp_region_held_drew (S := fun y9 : World => Below wr.heap.size wr y9) (by kernel_rfl) ((Below.refl _ _).drew) (fun hHeld => ?_)
                generalize wr.drew = wd at *
                refine wpAnyH_take (i := 0) (oi := ⟨some 142, .fieldAddr 36 (.tmp 15) 1, 0, "law.go:166", #[], none⟩) (v := .pointer (some ⟨by9, 1, none⟩)) rfl (by kernel_rfl) (by kernel_rfl) (by kernel_rfl) (fun _ _ _ h => h) (Or.inl ⟨by rfl, fun w hSw => by go_simp⟩) (by assumption) ?_
                try simp only [Act.put, List.setIfInBounds_toArray, List.set_cons_zero, List.set_cons_succ]
                refine wpAnyH_take (i := 1) (oi := ⟨some 143, .load 34 (.tmp 142), 34, "law.go:166", #[⟨0, .data⟩], none⟩) (v := .slice (some ⟨g7, 0, none⟩) 5 c7) rfl (by kernel_rfl) (by kernel_rfl) (by kernel_rfl) (fun _ _ _ h => h) (Or.inl ⟨by rfl, fun w hSw => by obtain ⟨d0, d1, -⟩ := row2 (brow hSw (brow HB.out HBY.out)); have hbl := (Array.getElem?_eq_some_iff.1 (brow hSw (brow HB.out HBY.out))).1; go_simp⟩) (by assumption) ?_
                try simp only [Act.put, List.setIfInBounds_toArray, List.set_cons_zero, List.set_cons_succ]
                refine wpAnyH_take (i := 2) (oi := ⟨some 144, .move (.tmp 21), 3, "law.go:166", #[], none⟩) (v := .int .i64 (i : Int)) rfl (by kernel_rfl) (by kernel_rfl) (by kernel_rfl) (fun _ _ _ h => h) (Or.inl ⟨by rfl, fun w hSw => by go_simp⟩) (by assumption) ?_
                try simp only [Act.put, List.setIfInBounds_toArray, List.set_cons_zero, List.set_cons_succ]
                refine wpAnyH_take (i := 3) (oi := ⟨some 145, .indexAddr 34 (.tmp 143) (.tmp 144), 0, "law.go:166", #[⟨1, .data⟩, ⟨2, .data⟩], none⟩) (v := .pointer (some ⟨g7, i * 7, none⟩)) rfl (by kernel_rfl) (by kernel_rfl) (by kernel_rfl) (fun _ _ _ h => h) (Or.inl ⟨by rfl, fun w hSw => by go_simp⟩) (by assumption) ?_
                try simp only [Act.put, List.setIfInBounds_toArray, List.set_cons_zero, List.set_cons_succ]
                refine wpAnyH_take (i := 4) (oi := ⟨some 146, .load 32 (.tmp 145), 32, "law.go:166", #[⟨3, .data⟩], none⟩) (v := .agg #[.int .u8 3, .int .u64 0, .int .i64 0, .int .u32 (pa : Int), .int .u8 (pn : Int), .int .u16 (s : Int), .int .u16 65535]) rfl (by kernel_rfl) (by kernel_rfl) (by kernel_rfl) (fun _ _ _ h => h) (Or.inl ⟨by rfl, fun w hSw => by have hb := Ser.bcell (HB.out.trans (hSw.mono HB.out.size)); obtain ⟨k0, k1, k2, k3, k4, k5, k6⟩ := HPC.out; have hgl := Nat.lt_of_lt_of_le (Nat.lt_of_lt_of_le HGL.out HB.out.size) hSw.size; rw [← hb.1 _ _ HGL.out] at k0 k1 k2 k3 k4 k5 k6; go_simp⟩) (by assumption) ?_
                try simp only [Act.put, List.setIfInBounds_toArray, List.set_cons_zero, List.set_cons_succ]
                refine wpAnyH_take (i := 5) (oi := ⟨some 147, .load 32 (.tmp 18), 32, "law.go:166", #[], none⟩) (v := .agg #[.int .u8 3, .int .u64 0, .int .i64 0, .int .u32 201326592, .int .u8 24, .int .u16 1, .int .u16 65535]) rfl (by kernel_rfl) (by kernel_rfl) (by kernel_rfl) (fun _ _ _ h => h) (Or.inl ⟨by rfl, fun w hSw => by obtain ⟨m0, m1, m2, m3, m4, m5, m6, -⟩ := row7 (brow hSw (brow HB.out HBM.out)); have hml := (Array.getElem?_eq_some_iff.1 (brow hSw (brow HB.out HBM.out))).1; go_simp⟩) (by assumption) ?_
                try simp only [Act.put, List.setIfInBounds_toArray, List.set_cons_zero, List.set_cons_succ]
                refine wpAnyH_take (i := 6) (oi := ⟨some 148, .binOp .eql 32 (.tmp 146) (.tmp 147) 32, 4, "law.go:166", #[⟨4, .data⟩, ⟨5, .data⟩], none⟩) (v := .bool false) rfl (by kernel_rfl) (by kernel_rfl) (by kernel_rfl) (fun _ _ _ h => h) (Or.inl ⟨by rfl, fun w hSw => by have hp9 := HPO.out; go_simp⟩) (by assumption) ?_
                try simp only [Act.put, List.setIfInBounds_toArray, List.set_cons_zero, List.set_cons_succ]
                refine wpAnyH_take (i := 7) (oi := ⟨some 149, .move (.tmp 148), 4, "law.go:166", #[⟨6, .data⟩], none⟩) (v := .bool false) rfl (by kernel_rfl) (by kernel_rfl) (by kernel_rfl) (fun _ _ _ h => h) (Or.inl ⟨by rfl, fun w hSw => by go_simp⟩) (by assumption) ?_
                try simp only [Act.put, List.setIfInBounds_toArray, List.set_cons_zero, List.set_cons_succ]
                refine wpAnyH_take (i := 8) (oi := ⟨some 150, .fieldAddr 36 (.tmp 15) 1, 0, "law.go:166", #[⟨7, .guard⟩], some (7, false)⟩) (v := .pointer (some ⟨by9, 1, none⟩)) rfl (by kernel_rfl) (by kernel_rfl) (by kernel_rfl) (fun _ _ _ h => h) (Or.inl ⟨by rfl, fun w hSw => by go_simp⟩) (by assumption) ?_
                try simp only [Act.put, List.setIfInBounds_toArray, List.set_cons_zero, List.set_cons_succ]
                refine wpAnyH_take (i := 9) (oi := ⟨some 151, .load 34 (.tmp 150), 34, "law.go:166", #[⟨8, .data⟩, ⟨7, .guard⟩], some (7, false)⟩) (v := .slice (some ⟨g7, 0, none⟩) 5 c7) rfl (by kernel_rfl) (by kernel_rfl) (by kernel_rfl) (fun _ _ _ h => h) (Or.inl ⟨by rfl, fun w hSw => by obtain ⟨d0, d1, -⟩ := row2 (brow hSw (brow HB.out HBY.out)); have hbl := (Array.getElem?_eq_some_iff.1 (brow hSw (brow HB.out HBY.out))).1; go_simp⟩) (by assumption) ?_
                try simp only [Act.put, List.setIfInBounds_toArray, List.set_cons_zero, List.set_cons_succ]
                refine wpAnyH_take (i := 10) (oi := ⟨some 152, .move (.tmp 21), 3, "law.go:166", #[⟨7, .guard⟩], some (7, false)⟩) (v := .int .i64 (i : Int)) rfl (by kernel_rfl) (by kernel_rfl) (by kernel_rfl) (fun _ _ _ h => h) (Or.inl ⟨by rfl, fun w hSw => by go_simp⟩) (by assumption) ?_
                try simp only [Act.put, List.setIfInBounds_toArray, List.set_cons_zero, List.set_cons_succ]
                refine wpAnyH_take (i := 11) (oi := ⟨some 153, .indexAddr 34 (.tmp 151) (.tmp 152), 0, "law.go:166", #[⟨9, .data⟩, ⟨10, .data⟩, ⟨7, .guard⟩], some (7, false)⟩) (v := .pointer (some ⟨g7, i * 7, none⟩)) rfl (by kernel_rfl) (by kernel_rfl) (by kernel_rfl) (fun _ _ _ h => h) (Or.inl ⟨by rfl, fun w hSw => by go_simp⟩) (by assumption) ?_
                try simp only [Act.put, List.setIfInBounds_toArray, List.set_cons_zero, List.set_cons_succ]
                refine wpAnyH_take (i := 12) (oi := ⟨some 154, .load 32 (.tmp 153), 32, "law.go:166", #[⟨11, .data⟩, ⟨7, .guard⟩], some (7, false)⟩) (v := .agg #[.int .u8 3, .int .u64 0, .int .i64 0, .int .u32 (pa : Int), .int .u8 (pn : Int), .int .u16 (s : Int), .int .u16 65535]) rfl (by kernel_rfl) (by kernel_rfl) (by kernel_rfl) (fun _ _ _ h => h) (Or.inl ⟨by rfl, fun w hSw => by have hb := Ser.bcell (HB.out.trans (hSw.mono HB.out.size)); obtain ⟨k0, k1, k2, k3, k4, k5, k6⟩ := HPC.out; have hgl := Nat.lt_of_lt_of_le (Nat.lt_of_lt_of_le HGL.out HB.out.size) hSw.size; rw [← hb.1 _ _ HGL.out] at k0 k1 k2 k3 k4 k5 k6; go_simp⟩) (by assumption) ?_
                try simp only [Act.put, List.setIfInBounds_toArray, List.set_cons_zero, List.set_cons_succ]
                refine wpAnyH_take (i := 13) (oi := ⟨some 155, .load 32 (.tmp 19), 32, "law.go:166", #[⟨7, .guard⟩], some (7, false)⟩) (v := .agg #[.int .u8 3, .int .u64 0, .int .i64 0, .int .u32 (pa : Int), .int .u8 (pn : Int), .int .u16 (s : Int), .int .u16 65535]) rfl (by kernel_rfl) (by kernel_rfl) (by kernel_rfl) (fun _ _ _ h => h) (Or.inl ⟨by rfl, fun w hSw => by obtain ⟨m0, m1, m2, m3, m4, m5, m6, -⟩ := row7 (brow hSw (brow HB.out HBT.out)); have hml := (Array.getElem?_eq_some_iff.1 (brow hSw (brow HB.out HBT.out))).1; go_simp⟩) (by assumption) ?_
                try simp only [Act.put, List.setIfInBounds_toArray, List.set_cons_zero, List.set_cons_succ]
                refine wpAnyH_take (i := 14) (oi := ⟨some 156, .binOp .eql 32 (.tmp 154) (.tmp 155) 32, 4, "law.go:166", #[⟨12, .data⟩, ⟨13, .data⟩, ⟨7, .guard⟩], some (7, false)⟩) (v := .bool true) rfl (by kernel_rfl) (by kernel_rfl) (by kernel_rfl) (fun _ _ _ h => h) (Or.inl ⟨by rfl, fun w hSw => by go_simp⟩) (by assumption) ?_
                try simp only [Act.put, List.setIfInBounds_toArray, List.set_cons_zero, List.set_cons_succ]
                refine wpAnyH_take (i := 15) (oi := ⟨some 157, .pick (.tmp 149) (.const (.bool true)) (.tmp 156), 4, "law.go:166", #[⟨7, .data⟩, ⟨14, .data⟩], none⟩) (v := .bool true) rfl (by kernel_rfl) (by kernel_rfl) (by kernel_rfl) (fun _ _ _ h => h) (Or.inl ⟨by rfl, fun w hSw => by go_simp⟩) (by assumption) ?_
                try simp only [Act.put, List.setIfInBounds_toArray, List.set_cons_zero, List.set_cons_succ]
                refine wpAnyH_done (by kernel_rfl) ?_ _
                try unfold NoPanic
                have HD := Lib.hid (HB.out.trans (hHeld.mono HB.out.size))
                clear hHeld
                go_wp2
                go_roundw
                case rel => exact ⟨i + 1, by omega, by omega, by go_num, by go_num, HD⟩
                case measure => simp [intOf]; omega
            · obtain rfl : i = 5 := by omega
              go_wp2
              go_ret
              exact ⟨rfl, H1.out.trans ((HTW6.out.step HB.out).b.mono H1.out.size)⟩
        · have HP := Lib.hid hp
          have hpi : (((now : Int) % 2) == 0) = false := by simp; omega
          clear hp
          have HTF : Hid (∀ w1 W q e rb, LW w1 W q e [(rb, #[.int .u32 (pa : Int), .int .u8 (pn : Int), .bool false, .int .u32 0, .int .u8 0, .int .i64 0, .int .u16 0, .int .u16 0, .int .u16 (s : Int), .int .u16 ((x : Int) + 97)], 62)] → (St 96 96 p (Eg.one (pA p) (pN p) 1 s x 2) (some (s, x + 96)) 3 1 2 e ∧ e.he = 0 ∧ e.rq = [] ∧ e.due = true ∧ e.lost = [] ∧ (e.ch = [oR, (⟨pa, pn, 1, x + 96, s⟩ : Ro)] ∨ e.ch = [(⟨pa, pn, 1, x + 96, s⟩ : Ro), oR])) → Calls Tryz.prog 24 #[.pointer (some ⟨q, 0, none⟩), .int .u64 (now : Int), .slice (some ⟨rb, 0, none⟩) 1 1] W fun en w' => ∃ g7 c7 t1 t2, en = .returned (.tuple #[.agg #[.int .i64 0, .slice (some ⟨g7, 0, none⟩) 2 c7], .bool true]) ∧ 2 ≤ c7 ∧ Below w1.heap.size w1 w' ∧ g7 < w'.heap.size ∧ (∀ j (hj : j < ([] ++ [t1, t2]).length), ∀ i, i < 7 → w'.cell? ⟨g7, j * 7 + i, none⟩ = (Pt.cl (([] : List Pt) ++ [t1, t2])[j])[i]?) ∧ ((t1 = mineP ∧ t2 = (⟨3, 0, 0, pa, pn, s, 65535⟩ : Pt)) ∨ (t1 = (⟨3, 0, 0, pa, pn, s, 65535⟩ : Pt) ∧ t2 = mineP))) := Lib.hid fun w1 W q e rb h hQ => by
            have hpr : e.upds [(⟨pa, pn, false, 0, 0, 0, 0, 0, s, x + 97⟩ : Rw)] = [mineP, (⟨3, 0, 0, pa, pn, s, 65535⟩ : Pt)] ∨ e.upds [(⟨pa, pn, false, 0, 0, 0, 0, 0, s, x + 97⟩ : Rw)] = [(⟨3, 0, 0, pa, pn, s, 65535⟩ : Pt), mineP] := upds_two hQ.1.met.id hQ.2.2.2.2.1 hQ.2.2.2.2.2 (x + 97) (65535) hpo (by first | exact (if_pos (by omega)).symm | exact (if_neg (by omega)).symm)
            have htp := tellP_is hQ.1.met hQ.2.1 hQ.2.2.1 hQ.2.2.2.1 now [(⟨pa, pn, false, 0, 0, 0, 0, 0, s, x + 97⟩ : Rw)]
            rw [if_neg HP.out] at htp
            have hne : e.tellP now [(⟨pa, pn, false, 0, 0, 0, 0, 0, s, x + 97⟩ : Rw)] ≠ [] := by
              rw [htp]
              rcases hpr with h9 | h9 <;> rw [h9] <;> simp
            have hcast : ((x + 97 : Nat) : Int) = (x : Int) + 97 := by omega
            have hrow : W.heap[rb]? = some (.cells (Rw.cl (⟨pa, pn, false, 0, 0, 0, 0, 0, s, x + 97⟩ : Rw)).toArray 62 (0, 0)) := by
              have h9 := h.row (List.mem_cons_self ..)
              rw [← hcast] at h9
              exact h9
            have hc := tell_lw0 h (by rw [hQ.2.1]; decide) (by rw [hQ.2.2.2.2.1]; decide) now (some ⟨rb, 0, none⟩) 1 1 [(⟨pa, pn, false, 0, 0, 0, 0, 0, s, x + 97⟩ : Rw)] rfl (by decide) (gsl_row hrow) (Or.inr ⟨rb, _, rfl, List.mem_cons_self ..⟩) hne
            refine hc.mono ?_
            rintro en w' ⟨g, c, rfl, hle, hg, hcs, hL⟩
            rw [hQ.1.met.id]
            rw [htp] at hle hcs ⊢
            rcases hpr with h9 | h9
            · rw [h9] at hle hcs ⊢
              exact ⟨g, c, _, _, rfl, hle, hL.b, hg, hcs, Or.inl ⟨rfl, rfl⟩⟩
            · rw [h9] at hle hcs ⊢
              exact ⟨g, c, _, _, rfl, hle, hL.b, hg, hcs, Or.inr ⟨rfl, rfl⟩⟩
          go_upto_region 13 with (go_at_call 19; (with_reducible refine (CP.out _).mono ?_); rintro en wg ⟨rfl, hB⟩; have HLg := Lib.hid (HL7.out.step hB); clear hB HL7)
          have HLh := Lib.hid (HLg.out.add #[.int .u32 (pa : Int), .int .u8 (pn : Int), .bool false, .int .u32 0, .int .u8 0, .int .i64 0, .int .u16 0, .int .u16 0, .int .u16 (s : Int), .int .u16 ((x : Int) + 97)] 62)
          have HRBW := Lib.hid HLg.out.b.size
          clear HLg
          generalize World.alloc wg _ = wh at *
          generalize wg.heap.size = rb at *
          go_upto_region 15 with (fail)
          have HLi := HLh
          clear HLh
          go_upto_region 16 with (go_at_call 24; (with_reducible refine (HTF.out _ _ _ _ _ HLi.out HQ7.out).mono ?_); rintro en wt ⟨g7, c7, t1, t2, rfl, hc7, hB, hg, hcs, hpr⟩; have HT7 := Lib.hid (And.intro hB (And.intro hg (And.intro hcs hpr))); clear hB hg hcs hpr HLi HTF HQ7)
          have BY := (Below.refl wt.heap.size wt).alloc (Nat.le_refl _) (.cells #[.int .i64 0, .slice (some ⟨g7, 0, none⟩) 2 c7] 36)
          have HTW : Hid (TW w1 wt g7 wt.heap.size #[.int .i64 0, .slice (some ⟨g7, 0, none⟩) 2 c7] (wt.alloc (.cells #[.int .i64 0, .slice (some ⟨g7, 0, none⟩) 2 c7] 36))) := Lib.hid ⟨HT7.out.1.trans (BY.mono HT7.out.1.size), ⟨HT7.out.1.size, BY.size⟩, HT7.out.2.1, fun o => (Ser.bcell BY).1 g7 o HT7.out.2.1, heap_alloc_new wt _⟩
          clear BY
          generalize wt.alloc _ = wy at *
          generalize hby : wt.heap.size = by9 at HTW
          have HBY9 := Lib.hid hby
          clear hby
          obtain ⟨d0, d1, -⟩ := row2 HTW.out.y
          have hbl := (Array.getElem?_eq_some_iff.1 HTW.out.y).1
          go_upto_region 23 with (fail)
          clear d0 d1 hbl
          go_upto_region 24 with (go_at_call 25; (with_reducible refine (own_call _).mono ?_); rintro en wz ⟨z, rfl, hS, hR, B⟩; have HTW2 := Lib.hid (HTW.out.step B); obtain ⟨q0, q1, -⟩ := row2 hR; have hzl := (Array.getElem?_eq_some_iff.1 hR).1; clear hS hR B HTW)
          clear q0 q1 hzl
          have BM := (Below.refl wz.heap.size wz).alloc (Nat.le_refl _) (.cells #[.int .u8 3, .int .u64 0, .int .i64 0, .int .u32 201326592, .int .u8 24, .int .u16 1, .int .u16 65535] 32)
          have HTW3 := Lib.hid (HTW2.out.step BM)
          have HM3 := Lib.hid (heap_alloc_new wz (.cells #[.int .u8 3, .int .u64 0, .int .i64 0, .int .u32 201326592, .int .u8 24, .int .u16 1, .int .u16 65535] 32))
          clear BM HTW2
          generalize wz.alloc _ = wm at *
          generalize wz.heap.size = bm at *
          go_upto_region 25 with (go_at_call 19; (with_reducible refine (CP.out _).mono ?_); rintro en wn ⟨rfl, hB⟩; have HTW4 := Lib.hid (HTW3.out.step hB); have HM4 := Lib.hid (brow hB HM3.out); clear hB HTW3 HM3)
          have BM := (Below.refl wn.heap.size wn).alloc (Nat.le_refl _) (.cells #[.int .u8 3, .int .u64 0, .int .i64 0, .int .u32 (pa : Int), .int .u8 (pn : Int), .int .u16 (s : Int), .int .u16 ((x : Int) + 96)] 32)
          have HTW5 := Lib.hid (HTW4.out.step BM)
          have HM5 := Lib.hid (brow BM HM4.out)
          have HR5 := Lib.hid (heap_alloc_new wn (.cells #[.int .u8 3, .int .u64 0, .int .i64 0, .int .u32 (pa : Int), .int .u8 (pn : Int), .int .u16 (s : Int), .int .u16 ((x : Int) + 96)] 32))
          have HBT5 := Lib.hid (And.intro HTW4.out.t.2 (show bm ≠ wn.heap.size from fun e9 => absurd (Array.getElem?_eq_some_iff.1 HM4.out).1 (by rw [e9]; exact Nat.lt_irrefl _)))
          clear BM HTW4 HM4
          generalize wn.alloc _ = wo at *
          generalize wn.heap.size = bt at *
          have c6 := cell_of_row wo bt 6 _ 32 (0, 0) HR5.out
          have f6 := frozen_of_row wo bt 6 _ 32 HR5.out
          have hrl := (Array.getElem?_eq_some_iff.1 HR5.out).1
          go_upto_region 27 with (fail)
          clear c6 f6 hrl
          have F6 : Fr (fun k => k = bt) wo (wo.setCell ⟨bt, 6, none⟩ (.int .u16 65535)) := Fr.grown (grown_setCell wo bt 6 _) (fun k e => (Option.some.inj e).symm)
          have HTW6 := Lib.hid (HTW5.out.set HBT5.out.1 HR5.out 6 (.int .u16 65535))
          have HM6 := Lib.hid (F6.row HM5.out HBT5.out.2)
          have HR6 : Hid ((wo.setCell ⟨bt, 6, none⟩ (.int .u16 65535)).heap[bt]? = some (.cells #[.int .u8 3, .int .u64 0, .int .i64 0, .int .u32 (pa : Int), .int .u8 (pn : Int), .int .u16 (s : Int), .int .u16 65535] 32 (0, 0))) := Lib.hid (by have := heap_setCell_same wo bt 6 _ 32 (.int .u16 65535) HR5.out; simpa using this)
          clear F6 HTW5 HM5 HR5
          generalize World.setCell _ _ _ = wp at *
          go_upto_region 29 with (fail)
          have HPO : Hid (((pa : Int) == 201326592) = false) := Lib.hid (by simp; omega)
          have HBM := HM6
          have HBT := HR6
          have HBY := Lib.hid HTW6.out.y
          have HGL := Lib.hid (Nat.lt_of_lt_of_le HTW6.out.g HTW6.out.t.2)
          obtain ⟨d0, d1, -⟩ := row2 HBY.out
          have hbl := (Array.getElem?_eq_some_iff.1 HBY.out).1
          go_wp2
          go_loopw [20, 21] (fun nv iv wr => ∃ i : Nat, 0 ≤ i ∧ i ≤ 2 ∧ iv = .int .i64 i ∧ nv = .int .i64 ((i : Int) - 0) ∧ Hid (Below wp.heap.size wp wr)) (fun _ iv _ => 2 - (intOf iv).toNat)
          case atStart => exact ⟨0, by decide, by decide, rfl, rfl, Lib.hid (Below.refl _ _)⟩
          case round =>
            obtain ⟨i, hi0, hi, rfl, rfl, HB⟩ := hrel
            obtain ⟨d0, d1, -⟩ := row2 (brow HB.out HBY.out)
            have hbl := (Array.getElem?_eq_some_iff.1 (brow HB.out HBY.out)).1
            by_cases hlt : i < 2
            · have hcs := HT7.out.2.2.1 i (by simp; omega)
              have htt : ((([] : List Pt) ++ [t1, t2])[i]'(by simp; omega)) = mineP ∨ ((([] : List Pt) ++ [t1, t2])[i]'(by simp; omega)) = (⟨3, 0, 0, pa, pn, s, 65535⟩ : Pt) := by
                have hii : i = 0 ∨ i = 1 := by omega
                rcases hii with rfl | rfl <;> rcases HT7.out.2.2.2 with ⟨h8, h9⟩ | ⟨h8, h9⟩ <;> subst h8 h9
                · exact Or.inl rfl
                · exact Or.inr rfl
                · exact Or.inr rfl
                · exact Or.inl rfl
              rcases htt with htt | htt
              · rw [htt] at hcs
                have HPC : Hid (PX wp g7 (i * 7) 201326592 24 1 65535) := Lib.hid ⟨(HTW6.out.gc _).trans (hcs 0 (by decide)), (HTW6.out.gc _).trans (hcs 1 (by decide)), (HTW6.out.gc _).trans (hcs 2 (by decide)), (HTW6.out.gc _).trans (hcs 3 (by decide)), (HTW6.out.gc _).trans (hcs 4 (by decide)), (HTW6.out.gc _).trans (hcs 5 (by decide)), (HTW6.out.gc _).trans (hcs 6 (by decide))⟩
                clear hcs htt
                unfold PX at HPC
                go_upto_region 33 with (fail)
                clear d0 d1 hbl
                refine wp_region_noPanic ?_
                refine wp_region_held_drew (S := fun y9 : World => Below wr.heap.size wr y9) (by kernel_rfl) ((Below.refl _ _).drew) (fun hHeld => ?_)
                generalize wr.drew = wd at *
                refine wpAnyH_take (i := 0) (oi := ⟨some 142, .fieldAddr 36 (.tmp 15) 1, 0, "law.go:166", #[], none⟩) (v := .pointer (some ⟨by9, 1, none⟩)) rfl (by kernel_rfl) (by kernel_rfl) (by kernel_rfl) (fun _ _ _ h => h) (Or.inl ⟨by rfl, fun w hSw => by go_simp⟩) (by assumption) ?_
                try simp only [Act.put, List.setIfInBounds_toArray, List.set_cons_zero, List.set_cons_succ]
                refine wpAnyH_take (i := 1) (oi := ⟨some 143, .load 34 (.tmp 142), 34, "law.go:166", #[⟨0, .data⟩], none⟩) (v := .slice (some ⟨g7, 0, none⟩) 2 c7) rfl (by kernel_rfl) (by kernel_rfl) (by kernel_rfl) (fun _ _ _ h => h) (Or.inl ⟨by rfl, fun w hSw => by obtain ⟨d0, d1, -⟩ := row2 (brow hSw (brow HB.out HBY.out)); have hbl := (Array.getElem?_eq_some_iff.1 (brow hSw (brow HB.out HBY.out))).1; go_simp⟩) (by assumption) ?_
                try simp only [Act.put, List.setIfInBounds_toArray, List.set_cons_zero, List.set_cons_succ]
                refine wpAnyH_take (i := 2) (oi := ⟨some 144, .move (.tmp 21), 3, "law.go:166", #[], none⟩) (v := .int .i64 (i : Int)) rfl (by kernel_rfl) (by kernel_rfl) (by kernel_rfl) (fun _ _ _ h => h) (Or.inl ⟨by rfl, fun w hSw => by go_simp⟩) (by assumption) ?_
                try simp only [Act.put, List.setIfInBounds_toArray, List.set_cons_zero, List.set_cons_succ]
                refine wpAnyH_take (i := 3) (oi := ⟨some 145, .indexAddr 34 (.tmp 143) (.tmp 144), 0, "law.go:166", #[⟨1, .data⟩, ⟨2, .data⟩], none⟩) (v := .pointer (some ⟨g7, i * 7, none⟩)) rfl (by kernel_rfl) (by kernel_rfl) (by kernel_rfl) (fun _ _ _ h => h) (Or.inl ⟨by rfl, fun w hSw => by go_simp⟩) (by assumption) ?_
                try simp only [Act.put, List.setIfInBounds_toArray, List.set_cons_zero, List.set_cons_succ]
                refine wpAnyH_take (i := 4) (oi := ⟨some 146, .load 32 (.tmp 145), 32, "law.go:166", #[⟨3, .data⟩], none⟩) (v := .agg #[.int .u8 3, .int .u64 0, .int .i64 0, .int .u32 201326592, .int .u8 24, .int .u16 1, .int .u16 65535]) rfl (by kernel_rfl) (by kernel_rfl) (by kernel_rfl) (fun _ _ _ h => h) (Or.inl ⟨by rfl, fun w hSw => by have hb := Ser.bcell (HB.out.trans (hSw.mono HB.out.size)); obtain ⟨k0, k1, k2, k3, k4, k5, k6⟩ := HPC.out; have hgl := Nat.lt_of_lt_of_le (Nat.lt_of_lt_of_le HGL.out HB.out.size) hSw.size; rw [← hb.1 _ _ HGL.out] at k0 k1 k2 k3 k4 k5 k6; go_simp⟩) (by assumption) ?_
                try simp only [Act.put, List.setIfInBounds_toArray, List.set_cons_zero, List.set_cons_succ]
                refine wpAnyH_take (i := 5) (oi := ⟨some 147, .load 32 (.tmp 18), 32, "law.go:166", #[], none⟩) (v := .agg #[.int .u8 3, .int .u64 0, .int .i64 0, .int .u32 201326592, .int .u8 24, .int .u16 1, .int .u16 65535]) rfl (by kernel_rfl) (by kernel_rfl) (by kernel_rfl) (fun _ _ _ h => h) (Or.inl ⟨by rfl, fun w hSw => by obtain ⟨m0, m1, m2, m3, m4, m5, m6, -⟩ := row7 (brow hSw (brow HB.out HBM.out)); have hml := (Array.getElem?_eq_some_iff.1 (brow hSw (brow HB.out HBM.out))).1; go_simp⟩) (by assumption) ?_
                try simp only [Act.put, List.setIfInBounds_toArray, List.set_cons_zero, List.set_cons_succ]
                refine wpAnyH_take (i := 6) (oi := ⟨some 148, .binOp .eql 32 (.tmp 146) (.tmp 147) 32, 4, "law.go:166", #[⟨4, .data⟩, ⟨5, .data⟩], none⟩) (v := .bool true) rfl (by kernel_rfl) (by kernel_rfl) (by kernel_rfl) (fun _ _ _ h => h) (Or.inl ⟨by rfl, fun w hSw => by go_simp⟩) (by assumption) ?_
                try simp only [Act.put, List.setIfInBounds_toArray, List.set_cons_zero, List.set_cons_succ]
                refine wpAnyH_take (i := 7) (oi := ⟨some 149, .move (.tmp 148), 4, "law.go:166", #[⟨6, .data⟩], none⟩) (v := .bool true) rfl (by kernel_rfl) (by kernel_rfl) (by kernel_rfl) (fun _ _ _ h => h) (Or.inl ⟨by rfl, fun w hSw => by go_simp⟩) (by assumption) ?_
                try simp only [Act.put, List.setIfInBounds_toArray, List.set_cons_zero, List.set_cons_succ]
                refine wpAnyH_take (i := 8) (oi := ⟨some 150, .fieldAddr 36 (.tmp 15) 1, 0, "law.go:166", #[⟨7, .guard⟩], some (7, false)⟩) (v := undef) rfl (by kernel_rfl) (by kernel_rfl) (by kernel_rfl) (fun _ _ _ h => h) (Or.inr ⟨by rfl, rfl⟩) (by assumption) ?_
                try simp only [Act.put, List.setIfInBounds_toArray, List.set_cons_zero, List.set_cons_succ]
                refine wpAnyH_take (i := 9) (oi := ⟨some 151, .load 34 (.tmp 150), 34, "law.go:166", #[⟨8, .data⟩, ⟨7, .guard⟩], some (7, false)⟩) (v := undef) rfl (by kernel_rfl) (by kernel_rfl) (by kernel_rfl) (fun _ _ _ h => h) (Or.inr ⟨by rfl, rfl⟩) (by assumption) ?_
                try simp only [Act.put, List.setIfInBounds_toArray, List.set_cons_zero, List.set_cons_succ]
                refine wpAnyH_take (i := 10) (oi := ⟨some 152, .move (.tmp 21), 3, "law.go:166", #[⟨7, .guard⟩], some (7, false)⟩) (v := undef) rfl (by kernel_rfl) (by kernel_rfl) (by kernel_rfl) (fun _ _ _ h => h) (Or.inr ⟨by rfl, rfl⟩) (by assumption) ?_
                try simp only [Act.put, List.setIfInBounds_toArray, List.set_cons_zero, List.set_cons_succ]
                refine wpAnyH_take (i := 11) (oi := ⟨some 153, .indexAddr 34 (.tmp 151) (.tmp 152), 0, "law.go:166", #[⟨9, .data⟩, ⟨10, .data⟩, ⟨7, .guard⟩], some (7, false)⟩) (v := undef) rfl (by kernel_rfl) (by kernel_rfl) (by kernel_rfl) (fun _ _ _ h => h) (Or.inr ⟨by rfl, rfl⟩) (by assumption) ?_
                try simp only [Act.put, List.setIfInBounds_toArray, List.set_cons_zero, List.set_cons_succ]
                refine wpAnyH_take (i := 12) (oi := ⟨some 154, .load 32 (.tmp 153), 32, "law.go:166", #[⟨11, .data⟩, ⟨7, .guard⟩], some (7, false)⟩) (v := undef) rfl (by kernel_rfl) (by kernel_rfl) (by kernel_rfl) (fun _ _ _ h => h) (Or.inr ⟨by rfl, rfl⟩) (by assumption) ?_
                try simp only [Act.put, List.setIfInBounds_toArray, List.set_cons_zero, List.set_cons_succ]
                refine wpAnyH_take (i := 13) (oi := ⟨some 155, .load 32 (.tmp 19), 32, "law.go:166", #[⟨7, .guard⟩], some (7, false)⟩) (v := undef) rfl (by kernel_rfl) (by kernel_rfl) (by kernel_rfl) (fun _ _ _ h => h) (Or.inr ⟨by rfl, rfl⟩) (by assumption) ?_
                try simp only [Act.put, List.setIfInBounds_toArray, List.set_cons_zero, List.set_cons_succ]
                refine wpAnyH_take (i := 14) (oi := ⟨some 156, .binOp .eql 32 (.tmp 154) (.tmp 155) 32, 4, "law.go:166", #[⟨12, .data⟩, ⟨13, .data⟩, ⟨7, .guard⟩], some (7, false)⟩) (v := undef) rfl (by kernel_rfl) (by kernel_rfl) (by kernel_rfl) (fun _ _ _ h => h) (Or.inr ⟨by rfl, rfl⟩) (by assumption) ?_
                try simp only [Act.put, List.setIfInBounds_toArray, List.set_cons_zero, List.set_cons_succ]
                refine wpAnyH_take (i := 15) (oi := ⟨some 157, .pick (.tmp 149) (.const (.bool true)) (.tmp 156), 4, "law.go:166", #[⟨7, .data⟩, ⟨14, .data⟩], none⟩) (v := .bool true) rfl (by kernel_rfl) (by kernel_rfl) (by kernel_rfl) (fun _ _ _ h => h) (Or.inl ⟨by rfl, fun w hSw => by go_simp⟩) (by assumption) ?_
                try simp only [Act.put, List.setIfInBounds_toArray, List.set_cons_zero, List.set_cons_succ]
                refine wpAnyH_done (by kernel_rfl) ?_ _
                try unfold NoPanic
                have HD := Lib.hid (HB.out.trans (hHeld.mono HB.out.size))
                clear hHeld
                go_wp2
                go_roundw
                case rel => exact ⟨i + 1, by omega, by omega, by go_num, by go_num, HD⟩
                case measure => simp [intOf]; omega
              · rw [htt] at hcs
                have hcast : ((x + 96 : Nat) : Int) = (x : Int) + 96 := by omega
                have HPC : Hid (PX wp g7 (i * 7) (pa : Int) (pn : Int) (s : Int) 65535) := Lib.hid ⟨(HTW6.out.gc _).trans (hcs 0 (by decide)), (HTW6.out.gc _).trans (hcs 1 (by decide)), (HTW6.out.gc _).trans (hcs 2 (by decide)), (HTW6.out.gc _).trans (hcs 3 (by decide)), (HTW6.out.gc _).trans (hcs 4 (by decide)), (HTW6.out.gc _).trans (hcs 5 (by decide)), (HTW6.out.gc _).trans (hcs 6 (by decide))⟩
                clear hcs htt hcast
                unfold PX at HPC
                go_upto_region 33 with (fail)
                clear d0 d1 hbl
                refine wp_region_noPanic ?_
                refine wp_region_held_drew (S := fun y9 : World => Below wr.heap.size wr y9) (by kernel_rfl) ((Below.refl _ _).drew) (fun hHeld => ?_)
                generalize wr.drew = wd at *
                refine wpAnyH_take (i := 0) (oi := ⟨some 142, .fieldAddr 36 (.tmp 15) 1, 0, "law.go:166", #[], none⟩) (v := .pointer (some ⟨by9, 1, none⟩)) rfl (by kernel_rfl) (by kernel_rfl) (by kernel_rfl) (fun _ _ _ h => h) (Or.inl ⟨by rfl, fun w hSw => by go_simp⟩) (by assumption) ?_
                try simp only [Act.put, List.setIfInBounds_toArray, List.set_cons_zero, List.set_cons_succ]
                refine wpAnyH_take (i := 1) (oi := ⟨some 143, .load 34 (.tmp 142), 34, "law.go:166", #[⟨0, .data⟩], none⟩) (v := .slice (some ⟨g7, 0, none⟩) 2 c7) rfl (by kernel_rfl) (by kernel_rfl) (by kernel_rfl) (fun _ _ _ h => h) (Or.inl ⟨by rfl, fun w hSw => by obtain ⟨d0, d1, -⟩ := row2 (brow hSw (brow HB.out HBY.out)); have hbl := (Array.getElem?_eq_some_iff.1 (brow hSw (brow HB.out HBY.out))).1; go_simp⟩) (by assumption) ?_
                try simp only [Act.put, List.setIfInBounds_toArray, List.set_cons_zero, List.set_cons_succ]
                refine wpAnyH_take (i := 2) (oi := ⟨some 144, .move (.tmp 21), 3, "law.go:166", #[], none⟩) (v := .int .i64 (i : Int)) rfl (by kernel_rfl) (by kernel_rfl) (by kernel_rfl) (fun _ _ _ h => h) (Or.inl ⟨by rfl, fun w hSw => by go_simp⟩) (by assumption) ?_
                try simp only [Act.put, List.setIfInBounds_toArray, List.set_cons_zero, List.set_cons_succ]
                refine wpAnyH_take (i := 3) (oi := ⟨some 145, .indexAddr 34 (.tmp 143) (.tmp 144), 0, "law.go:166", #[⟨1, .data⟩, ⟨2, .data⟩], none⟩) (v := .pointer (some ⟨g7, i * 7, none⟩)) rfl (by kernel_rfl) (by kernel_rfl) (by kernel_rfl) (fun _ _ _ h => h) (Or.inl ⟨by rfl, fun w hSw => by go_simp⟩) (by assumption) ?_
                try simp only [Act.put, List.setIfInBounds_toArray, List.set_cons_zero, List.set_cons_succ]
                refine wpAnyH_take (i := 4) (oi := ⟨some 146, .load 32 (.tmp 145), 32, "law.go:166", #[⟨3, .data⟩], none⟩) (v := .agg #[.int .u8 3, .int .u64 0, .int .i64 0, .int .u32 (pa : Int), .int .u8 (pn : Int), .int .u16 (s : Int), .int .u16 65535]) rfl (by kernel_rfl) (by kernel_rfl) (by kernel_rfl) (fun _ _ _ h => h) (Or.inl ⟨by rfl, fun w hSw => by have hb := Ser.bcell (HB.out.trans (hSw.mono HB.out.size)); obtain ⟨k0, k1, k2, k3, k4, k5, k6⟩ := HPC.out; have hgl := Nat.lt_of_lt_of_le (Nat.lt_of_lt_of_le HGL.out HB.out.size) hSw.size; rw [← hb.1 _ _ HGL.out] at k0 k1 k2 k3 k4 k5 k6; go_simp⟩) (by assumption) ?_
                try simp only [Act.put, List.setIfInBounds_toArray, List.set_cons_zero, List.set_cons_succ]
                refine wpAnyH_take (i := 5) (oi := ⟨some 147, .load 32 (.tmp 18), 32, "law.go:166", #[], none⟩) (v := .agg #[.int .u8 3, .int .u64 0, .int .i64 0, .int .u32 201326592, .int .u8 24, .int .u16 1, .int .u16 65535]) rfl (by kernel_rfl) (by kernel_rfl) (by kernel_rfl) (fun _ _ _ h => h) (Or.inl ⟨by rfl, fun w hSw => by obtain ⟨m0, m1, m2, m3, m4, m5, m6, -⟩ := row7 (brow hSw (brow HB.out HBM.out)); have hml := (Array.getElem?_eq_some_iff.1 (brow hSw (brow HB.out HBM.out))).1; go_simp⟩) (by assumption) ?_
                try simp only [Act.put, List.setIfInBounds_toArray, List.set_cons_zero, List.set_cons_succ]
                refine wpAnyH_take (i := 6) (oi := ⟨some 148, .binOp .eql 32 (.tmp 146) (.tmp 147) 32, 4, "law.go:166", #[⟨4, .data⟩, ⟨5, .data⟩], none⟩) (v := .bool false) rfl (by kernel_rfl) (by kernel_rfl) (by kernel_rfl) (fun _ _ _ h => h) (Or.inl ⟨by rfl, fun w hSw => by have hp9 := HPO.out; go_simp⟩) (by assumption) ?_
                try simp only [Act.put, List.setIfInBounds_toArray, List.set_cons_zero, List.set_cons_succ]
                refine wpAnyH_take (i := 7) (oi := ⟨some 149, .move (.tmp 148), 4, "law.go:166", #[⟨6, .data⟩], none⟩) (v := .bool false) rfl (by kernel_rfl) (by kernel_rfl) (by kernel_rfl) (fun _ _ _ h => h) (Or.inl ⟨by rfl, fun w hSw => by go_simp⟩) (by assumption) ?_
                try simp only [Act.put, List.setIfInBounds_toArray, List.set_cons_zero, List.set_cons_succ]
                refine wpAnyH_take (i := 8) (oi := ⟨some 150, .fieldAddr 36 (.tmp 15) 1, 0, "law.go:166", #[⟨7, .guard⟩], some (7, false)⟩) (v := .pointer (some ⟨by9, 1, none⟩)) rfl (by kernel_rfl) (by kernel_rfl) (by kernel_rfl) (fun _ _ _ h => h) (Or.inl ⟨by rfl, fun w hSw => by go_simp⟩) (by assumption) ?_
                try simp only [Act.put, List.setIfInBounds_toArray, List.set_cons_zero, List.set_cons_succ]
                refine wpAnyH_take (i := 9) (oi := ⟨some 151, .load 34 (.tmp 150), 34, "law.go:166", #[⟨8, .data⟩, ⟨7, .guard⟩], some (7, false)⟩) (v := .slice (some ⟨g7, 0, none⟩) 2 c7) rfl (by kernel_rfl) (by kernel_rfl) (by kernel_rfl) (fun _ _ _ h => h) (Or.inl ⟨by rfl, fun w hSw => by obtain ⟨d0, d1, -⟩ := row2 (brow hSw (brow HB.out HBY.out)); have hbl := (Array.getElem?_eq_some_iff.1 (brow hSw (brow HB.out HBY.out))).1; go_simp⟩) (by assumption) ?_
                try simp only [Act.put, List.setIfInBounds_toArray, List.set_cons_zero, List.set_cons_succ]
                refine wpAnyH_take (i := 10) (oi := ⟨some 152, .move (.tmp 21), 3, "law.go:166", #[⟨7, .guard⟩], some (7, false)⟩) (v := .int .i64 (i : Int)) rfl (by kernel_rfl) (by kernel_rfl) (by kernel_rfl) (fun _ _ _ h => h) (Or.inl ⟨by rfl, fun w hSw => by go_simp⟩) (by assumption) ?_
                try simp only [Act.put, List.setIfInBounds_toArray, List.set_cons_zero, List.set_cons_succ]
                refine wpAnyH_take (i := 11) (oi := ⟨some 153, .indexAddr 34 (.tmp 151) (.tmp 152), 0, "law.go:166", #[⟨9, .data⟩, ⟨10, .data⟩, ⟨7, .guard⟩], some (7, false)⟩) (v := .pointer (some ⟨g7, i * 7, none⟩)) rfl (by kernel_rfl) (by kernel_rfl) (by kernel_rfl) (fun _ _ _ h => h) (Or.inl ⟨by rfl, fun w hSw => by go_simp⟩) (by assumption) ?_
                try simp only [Act.put, List.setIfInBounds_toArray, List.set_cons_zero, List.set_cons_succ]
                refine wpAnyH_take (i := 12) (oi := ⟨some 154, .load 32 (.tmp 153), 32, "law.go:166", #[⟨11, .data⟩, ⟨7, .guard⟩], some (7, false)⟩) (v := .agg #[.int .u8 3, .int .u64 0, .int .i64 0, .int .u32 (pa : Int), .int .u8 (pn : Int), .int .u16 (s : Int), .int .u16 65535]) rfl (by kernel_rfl) (by kernel_rfl) (by kernel_rfl) (fun _ _ _ h => h) (Or.inl ⟨by rfl, fun w hSw => by have hb := Ser.bcell (HB.out.trans (hSw.mono HB.out.size)); obtain ⟨k0, k1, k2, k3, k4, k5, k6⟩ := HPC.out; have hgl := Nat.lt_of_lt_of_le (Nat.lt_of_lt_of_le HGL.out HB.out.size) hSw.size; rw [← hb.1 _ _ HGL.out] at k0 k1 k2 k3 k4 k5 k6; go_simp⟩) (by assumption) ?_
                try simp only [Act.put, List.setIfInBounds_toArray, List.set_cons_zero, List.set_cons_succ]
                refine wpAnyH_take (i := 13) (oi := ⟨some 155, .load 32 (.tmp 19), 32, "law.go:166", #[⟨7, .guard⟩], some (7, false)⟩) (v := .agg #[.int .u8 3, .int .u64 0, .int .i64 0, .int .u32 (pa : Int), .int .u8 (pn : Int), .int .u16 (s : Int), .int .u16 65535]) rfl (by kernel_rfl) (by kernel_rfl) (by kernel_rfl) (fun _ _ _ h => h) (Or.inl ⟨by rfl, fun w hSw => by obtain ⟨m0, m1, m2, m3, m4, m5, m6, -⟩ := row7 (brow hSw (brow HB.out HBT.out)); have hml := (Array.getElem?_eq_some_iff.1 (brow hSw (brow HB.out HBT.out))).1; go_simp⟩) (by assumption) ?_
                try simp only [Act.put, List.setIfInBounds_toArray, List.set_cons_zero, List.set_cons_succ]
                refine wpAnyH_take (i := 14) (oi := ⟨some 156, .binOp .eql 32 (.tmp 154) (.tmp 155) 32, 4, "law.go:166", #[⟨12, .data⟩, ⟨13, .data⟩, ⟨7, .guard⟩], some (7, false)⟩) (v := .bool true) rfl (by kernel_rfl) (by kernel_rfl) (by kernel_rfl) (fun _ _ _ h => h) (Or.inl ⟨by rfl, fun w hSw => by go_simp⟩) (by assumption) ?_
                try simp only [Act.put, List.setIfInBounds_toArray, List.set_cons_zero, List.set_cons_succ]
                refine wpAnyH_take (i := 15) (oi := ⟨some 157, .pick (.tmp 149) (.const (.bool true)) (.tmp 156), 4, "law.go:166", #[⟨7, .data⟩, ⟨14, .data⟩], none⟩) (v := .bool true) rfl (by kernel_rfl) (by kernel_rfl) (by kernel_rfl) (fun _ _ _ h => h) (Or.inl ⟨by rfl, fun w hSw => by go_simp⟩) (by assumption) ?_
                try simp only [Act.put, List.setIfInBounds_toArray, List.set_cons_zero, List.set_cons_succ]
                refine wpAnyH_done (by kernel_rfl) ?_ _
                try unfold NoPanic
                have HD := Lib.hid (HB.out.trans (hHeld.mono HB.out.size))
                clear hHeld
                go_wp2
                go_roundw
                case rel => exact ⟨i + 1, by omega, by omega, by go_num, by go_num, HD⟩
                case measure => simp [intOf]; omega
            · obtain rfl : i = 2 := by omega
              go_wp2
              go_ret
              exact ⟨rfl, H1.out.trans ((HTW6.out.step HB.out).b.mono H1.out.size)⟩
  · have hd : decide ((60000 : Int) < (x : Int)) = true := by simp; omega
    clear b0 b1 b2 b5 hf
    go_enter Tryz.func5, Tryz.ntmps5
    go_wp2_with (first
      | (go_at_call 13; (with_reducible refine (awake_any w HT.out).mono ?_); rintro en wa ⟨rfl, hB⟩; have HA := Lib.hid (And.intro hB (Lk.tab_below HT.out hB h0)); clear hB)
      | (go_at_call 13; (with_reducible refine (awake_any wa HA.out.2).mono ?_); rintro en wb ⟨rfl, hB⟩; have HB := Lib.hid (HA.out.1.trans (hB.mono HA.out.1.size)); clear hB))
    go_ret
    exact ⟨rfl, HB.out⟩
set_option maxRecDepth 100000 in
theorem lifted (os : Os) (started : os.Started) (H : Type) (enc : TypeId × Value → H) :
    ReturnsInHanded {} Tryz.checked os 5 .any (fun w args => (Rows.engineTellsSpec.pre enc Tryz.prog Tryz.f5 Rows.engineTellsRow.domain false w args ∧ laidMet Tryz.prog Rows.engineTellsRow.laid w) ∧ sizedMet enc Tryz.prog Tryz.f5 (OpenSpec.ofChange Rows.engineTellsSpec) false w args)
      (Rows.engineTellsSpec.post enc Tryz.prog Tryz.f5 false true false false) := by
  refine returnsInHanded_of_change_and (C := Tryz.checked) (X := fun w _ => laidMet Tryz.prog Rows.engineTellsRow.laid w) (fun _ _ _ hh h => h.of_heap hh) own started (by kernel_rfl) Tryz.func5
    (ChangeSpec.witness_at (enc := enc) (C := Tryz.checked) (os := os) (X := fun w _ => laidMet Tryz.prog Rows.engineTellsRow.laid w) false (laidWorld os) #[.int .u16 0, .int .u16 0, .int .u8 0, .bool false, .bool false, .int .u8 0] 8 rfl (by kernel_rfl) (by kernel_rfl) (by kernel_rfl) (by kernel_rfl) (by kernel_rfl) (laid_met os _)) ?_
  intro W base args ds gs before hval0 hW hcnd _ hL _
  have hval : ∀ (j : Nat) t v, Tryz.f5.params[j]? = some t → args[j]? = some v → Value.okWide Tryz.prog W .any base t v := hval0
  have hW' := hW
  obtain ⟨p, q, hA0, hV, rfl, hfz, hnd⟩ := hW
  have hA : DataW.TrodAll enc Tryz.prog W 0 (fun _ => true) true Tryz.f5.params.toList args.toList ds p := hA0
  rw [Tryz.params5] at hA hval
  obtain ⟨v0, vs0, d0, ds0, p0, q0, hargs, rfl, rfl, h0, r0⟩ := trodAll_cons hA
  obtain ⟨v1, vs1, d1, ds1, p1, q1, rfl, rfl, rfl, h1, r1⟩ := trodAll_cons r0
  obtain ⟨v2, vs2, d2, ds2, p2, q2, rfl, rfl, rfl, h2, r2⟩ := trodAll_cons r1
  obtain ⟨v3, vs3, d3, ds3, p3, q3, rfl, rfl, rfl, h3, r3⟩ := trodAll_cons r2
  obtain ⟨v4, vs4, d4, ds4, p4, q4, rfl, rfl, rfl, h4, r4⟩ := trodAll_cons r3
  obtain ⟨v5, vs5, d5, ds5, p5, q5, rfl, rfl, rfl, h5, r5⟩ := trodAll_cons r4
  obtain ⟨rfl, rfl, rfl⟩ := trodAll_nil r5
  obtain rfl : args = #[v0, v1, v2, v3, v4, v5] := by cases args; simp_all
  obtain ⟨rfl, rfl⟩ := trodVars_none hV
  obtain ⟨a0, rfl, rfl, rfl, w0⟩ := open_int Tryz.underlying22 (hval 0 22 v0 rfl rfl) h0
  obtain ⟨a1, rfl, rfl, rfl, w1⟩ := open_int Tryz.underlying22 (hval 1 22 v1 rfl rfl) h1
  obtain ⟨a2, rfl, rfl, rfl, w2⟩ := open_int Tryz.underlying5 (hval 2 5 v2 rfl rfl) h2
  obtain ⟨a3, rfl, rfl, rfl⟩ := open_bool Tryz.underlying4 (hval 3 4 v3 rfl rfl) h3
  obtain ⟨a4, rfl, rfl, rfl⟩ := open_bool Tryz.underlying4 (hval 4 4 v4 rfl rfl) h4
  obtain ⟨a5, rfl, rfl, rfl, w5⟩ := open_int Tryz.underlying5 (hval 5 5 v5 rfl rfl) h5
  clear hA0 hval0
  refine (walk a0 a1 a2 a3 a4 a5 W w0 w1 w2 w5 (Lk.tab_of_laid hL)).mono fun e W' ⟨he, bel⟩ => ?_
  subst he
  exact ⟨_, rfl, _, _, _, [], _, [], hW', trodAll_mk1 (shut_bool Tryz.underlying4 _), (trodAll_cons_mk (shut_int Tryz.underlying22 w0) (trodAll_cons_mk (shut_int Tryz.underlying22 w1) (trodAll_cons_mk (shut_int Tryz.underlying5 w2) (trodAll_cons_mk (shut_bool Tryz.underlying4 _) (trodAll_cons_mk (shut_bool Tryz.underlying4 _) (trodAll_cons_mk (shut_int Tryz.underlying5 w5) trodAll_mk0)))))), rfl, bel.frame _, fun h => by cases h⟩
theorem over : Rows.engineTellsRow.holds Tryz.pinned (OpenSpec.ofChange Rows.engineTellsSpec) :=
  OpenClaim.holds_of_wide 5 Tryz.f5 rfl rfl rfl rfl rfl rfl rfl ⟨rfl, rfl, rfl, rfl, rfl⟩ rfl rfl rfl rfl rfl (by kernel_rfl) Tryz.func5 (by kernel_rfl)
    (of_decide_eq_true (by kernel_rfl)) (by unfold Func.isWrapper; first | (rw [if_pos (by decide +kernel)]; kernel_rfl) | (rw [if_neg (by decide +kernel)]; exact ⟨rfl, rfl⟩))
    (fun os started H enc _ => lifted os started H enc)
theorem proved : Rows.EngineTellsCardSaid :=
  Claim7.holds_tied_plain_at .later [] [.data] true (true, "73430b27a30ada73018fe7c3192a9fa6d4b7bfc394d4113e0a57e1736d749f34") false
    over (fun _ h => by cases h) (by kernel_rfl) (fun _ h => by cases h) engineTells_row_tie rfl ⟨rfl, rfl⟩ (by kernel_rfl) rfl
    (fun f fn hf hfn => by
      obtain rfl : f = 5 := Option.some.inj ((show Tryz.prog.funcNamed "milestone/milestonelaw17.EngineTells" = some 5 by kernel_rfl).symm.trans hf) |>.symm
      obtain rfl : fn = Tryz.f5 := (Option.some.inj (Tryz.func5.symm.trans hfn)).symm
      exact ⟨by kernel_rfl, fun j t ht => by
        rw [Tryz.params5] at ht
        have hm : t ∈ [22, 22, 5, 4, 4, 5] := by simpa using Array.mem_of_getElem? ht
        have hall : ([22, 22, 5, 4, 4, 5].all fun u => !Tryz.prog.wantsStandIn u) = true := by kernel_rfl
        exact (show Tryz.prog.wantsStandIn t = false by simpa using List.all_eq_true.1 hall t hm)⟩)
    (by kernel_rfl)
#print axioms proved
end Go.Proofs.YtjbogjbopgcbhaaGreatDoor.Eg.engineTells
