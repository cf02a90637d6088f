/-
  'For every input the Go function milestonelaw17.EngineSwitches returns true, and each argument reads behind the call as it read before.'
  Conditions: none but the row's own (linux/amd64, sizes of what is read within the address space).
-/
import Derived.Test.YtjbogjbopgcbhaaGreatDoorRows
import Derived.WalkKit
import Derived.ProofKit
import Derived.OpenShut
import Derived.ShutString
import Derived.ChangeOld
import Derived.Below
import Derived.Lib.SmallJoins
import Derived.Lib.Hide
import Derived.Test.YtjbogjbopgcbhaaGreatDoorZN
import Derived.Test.YtjbogjbopgcbhaaGreatDoorZLaid
import Derived.Test.YtjbogjbopgcbhaaGreatDoorCards
import Derived.Test.YtjbogjbopgcbhaaGreatDoorTie
import Derived.SevenTiedAt
import Derived.Laws.Closers25b
namespace Go.Proofs.YtjbogjbopgcbhaaGreatDoor.Eg.engineSwitches
open Pre
open Ser
open Rts
open Go.Proofs.YtjbogjbopgcbhaaGreatDoor.Src (row1 row2 Mk SrcAt pA pN)
open Go.Proofs.YtjbogjbopgcbhaaGreatDoor.Lk (laidWorld laid_met)
open Go.ChangeShapes Go.WideShapes Go.ChangeAt Go.RowKit
open Go.ChangeMaps (open_string shut_string)
set_option linter.unusedVariables false
set_option maxRecDepth 8000

theorem own : ownKnob Tryz.prog.godebug = none := by kernel_rfl
theorem laidOut : laidOutB Tryz.prog = true := by kernel_rfl

set_option maxHeartbeats 16000000 in
theorem walk (a0 : Int) (a1 : Int) (a2 : Int) (a3 : Int) (w : World) (w0 : (Lit.int .u8 a0).wf = true) (w1 : (Lit.int .u16 a1).wf = true) (w2 : (Lit.int .u16 a2).wf = true) (w3 : (Lit.int .u16 a3).wf = true) (hp : Lk.Tab w) :
    Calls Tryz.prog 11 #[.int .u8 a0, .int .u16 a1, .int .u16 a2, .int .u16 a3] w fun e w' => e = .returned (.bool true) ∧ Below w.heap.size w w' := by
  have b0 := bounds_u8 w0
  have b1 := bounds_u16 w1
  have b2 := bounds_u16 w2
  have b3 := bounds_u16 w3
  obtain ⟨p, rfl⟩ := Int.eq_ofNat_of_zero_le b0.1
  obtain ⟨f, rfl⟩ := Int.eq_ofNat_of_zero_le b1.1
  obtain ⟨n, rfl⟩ := Int.eq_ofNat_of_zero_le b2.1
  obtain ⟨s, rfl⟩ := Int.eq_ofNat_of_zero_le b3.1
  clear w0 w1 w2 w3
  have h0 := Lk.tab_size hp
  have HT := Lib.hid hp
  clear hp
  by_cases hf : f ≤ 30000
  · have hd : decide ((30000 : Int) < (f : Int)) = false := by simp; omega
    have hn1 : (n : Int) % ((f : Int) + 1) = ((n % (f + 1) : Nat) : Int) := by push_cast; rfl
    obtain ⟨g, hg⟩ : ∃ g, g = n % (f + 1) := ⟨_, rfl⟩
    have hgf : g ≤ f := by have := Nat.mod_lt n (show 0 < f + 1 by omega); omega
    rw [← hg] at hn1
    clear hg
    obtain ⟨pa, hpa⟩ : ∃ pa, pa = pA p := ⟨_, rfl⟩
    obtain ⟨pn, hpn⟩ : ∃ pn, pn = pN p := ⟨_, rfl⟩
    have hpl : pn < 256 := by rw [hpn]; have := Src.pN_le p; omega
    have hl1 : (Eg.one (pA p) (pN p) 1 s f 2).length ≤ 1 := one_len ..
    have hl2 : (Eg.one (pA p) (pN p) 1 s f 2 ++ Eg.one (pA p) (pN p) 2 s g 2).length ≤ 2 := by rw [List.length_append]; have h8 := one_len (pA p) (pN p) 1 s f 2; have h9 := one_len (pA p) (pN p) 2 s g 2; omega
    have hp1 : AllP p (Eg.one (pA p) (pN p) 1 s f 2) := AllP.one p 1 s f 2
    have hp2 : AllP p (Eg.one (pA p) (pN p) 1 s f 2 ++ Eg.one (pA p) (pN p) 2 s g 2) := AllP.two (AllP.one p 1 s f 2) (AllP.one p 2 s g 2)
    have e1 : (Eg.one (pA p) (pN p) 1 s f 2).length = 1 := by rw [one_eq (by omega)]; rfl
    have e2 : (Eg.one (pA p) (pN p) 1 s f 2 ++ Eg.one (pA p) (pN p) 2 s g 2).length = 2 := by rw [one_eq (by omega), one_eq (by omega)]; rfl
    have HM0 : Hid (St 96 96 p [] none 0 0 0 (Eng.m0 96 96)) := Lib.hid (St.m0 96 96 p)
    have CP : Hid (∀ W, Calls Tryz.prog 19 #[.int .u8 (p : Int)] W fun e w' => e = .returned (.agg #[.int .u32 (pa : Int), .int .u8 (pn : Int)]) ∧ Below W.heap.size W w') := Lib.hid fun W => by rw [hpa, hpn]; exact Src.prefix_n p (by omega) W
    have HM : Hid (∀ W, Lk.Tab W → Calls Tryz.prog 14 #[.int .u16 96, .int .u16 96] W fun en w' => ∃ q w1, en = .returned (.pointer (some ⟨q, 0, none⟩)) ∧ Below W.heap.size W w1 ∧ LW w1 w' q (Eng.m0 96 96) []) := Lib.hid fun W h => met_any W 96 96 (by decide) (by decide) h
    have CU1 : Hid (∀ W, Calls Tryz.prog 16 #[.int .u8 (p : Int), .int .u16 (s : Int), .int .u16 (f : Int)] W fun en w' => en = .returned (.agg #[.int .u8 3, .int .u64 0, .int .i64 3, .int .u32 (pa : Int), .int .u8 (pn : Int), .int .u16 (s : Int), .int .u16 (f : Int)]) ∧ Below W.heap.size W w') := Lib.hid fun W => by rw [hpa, hpn]; exact up_any W p s f (by omega)
    have CU2 : Hid (∀ W, Calls Tryz.prog 16 #[.int .u8 (p : Int), .int .u16 (s : Int), .int .u16 (g : Int)] W fun en w' => en = .returned (.agg #[.int .u8 3, .int .u64 0, .int .i64 3, .int .u32 (pa : Int), .int .u8 (pn : Int), .int .u16 (s : Int), .int .u16 (g : Int)]) ∧ Below W.heap.size W w') := Lib.hid fun W => by rw [hpa, hpn]; exact up_any W p s g (by omega)
    have CU3 : Hid (∀ W, Calls Tryz.prog 16 #[.int .u8 (p : Int), .int .u16 (s : Int), .int .u16 65535] W fun en w' => en = .returned (.agg #[.int .u8 3, .int .u64 0, .int .i64 3, .int .u32 (pa : Int), .int .u8 (pn : Int), .int .u16 (s : Int), .int .u16 65535]) ∧ Below W.heap.size W w') := Lib.hid fun W => by rw [hpa, hpn]; exact up_any W p s 65535 (by omega)
    have HH1 : Hid (∀ w1 W q e K, LW w1 W q e K → St 96 96 p ([]) none 0 0 0 e → Calls Tryz.prog 15 #[.pointer (some ⟨q, 0, none⟩), .agg #[.int .i64 1, .slice (some ⟨W.heap.size, 0, none⟩) 1 1], .int .i64 0, .int .u64 2] (W.alloc (.cells #[.int .u8 3, .int .u64 0, .int .i64 3, .int .u32 (pa : Int), .int .u8 (pn : Int), .int .u16 (s : Int), .int .u16 (f : Int)] 32)) fun en w' => en = .returned (.tuple #[]) ∧ ∃ e', LW w1 w' q e' K ∧ St 96 96 p (Eg.one (pA p) (pN p) 1 s f 2) none 0 0 0 e') := Lib.hid fun w1 W q e K h st => by
      have h9 := hear_up1 h st (s := s) (m := f) (by omega) (by omega) (by simp)
      rw [tell_one] at h9
      rw [hpa, hpn]
      exact h9
    have HH2 : Hid (∀ w1 W q e K, LW w1 W q e K → St 96 96 p (Eg.one (pA p) (pN p) 1 s f 2) (some (s, f + 96)) 2 0 2 e → Calls Tryz.prog 15 #[.pointer (some ⟨q, 0, none⟩), .agg #[.int .i64 2, .slice (some ⟨W.heap.size, 0, none⟩) 1 1], .int .i64 0, .int .u64 2] (W.alloc (.cells #[.int .u8 3, .int .u64 0, .int .i64 3, .int .u32 (pa : Int), .int .u8 (pn : Int), .int .u16 (s : Int), .int .u16 (g : Int)] 32)) fun en w' => en = .returned (.tuple #[]) ∧ ∃ e', LW w1 w' q e' K ∧ St 96 96 p (Eg.one (pA p) (pN p) 1 s f 2 ++ Eg.one (pA p) (pN p) 2 s g 2) (some (s, f + 96)) 2 0 2 e') := Lib.hid fun w1 W q e K h st => by
      have h9 := hear_up2 h st (s := s) (m := g) (by omega) (by omega) (by omega)
      rw [tell_two] at h9
      rw [hpa, hpn]
      exact h9
    have HH3 : Hid (∀ w1 W q e K, LW w1 W q e K → St 96 96 p (Eg.one (pA p) (pN p) 1 s f 2 ++ Eg.one (pA p) (pN p) 2 s g 2) (some (s, g + 96)) 5 2 3 e → Calls Tryz.prog 15 #[.pointer (some ⟨q, 0, none⟩), .agg #[.int .i64 2, .slice (some ⟨W.heap.size, 0, none⟩) 1 1], .int .i64 0, .int .u64 2] (W.alloc (.cells #[.int .u8 3, .int .u64 0, .int .i64 3, .int .u32 (pa : Int), .int .u8 (pn : Int), .int .u16 (s : Int), .int .u16 65535] 32)) fun en w' => en = .returned (.tuple #[]) ∧ ∃ e', LW w1 w' q e' K ∧ St 96 96 p (Eg.one (pA p) (pN p) 1 s f 2) (some (s, g + 96)) 5 2 3 e') := Lib.hid fun w1 W q e K h st => by
      have h9 := hear_up2 h st (s := s) (m := 65535) (by omega) (by omega) (by omega)
      rw [tell_less _ _ _ _ _ _ _ (by omega)] at h9
      rw [hpa, hpn]
      exact h9
    have HS1 : Hid (∀ w1 W q e K, LW w1 W q e K → St 96 96 p (Eg.one (pA p) (pN p) 1 s f 2) none 0 0 0 e → Calls Tryz.prog 17 #[.pointer (some ⟨q, 0, none⟩)] W fun en w' => ∃ v' e', en = .returned v' ∧ LW w1 w' q e' K ∧ look e'.ch pa pn = some ⟨pa, pn, 1, f + 96, s⟩ ∧ St 96 96 p (Eg.one (pA p) (pN p) 1 s f 2) (some (s, f + 96)) 2 0 2 e') := Lib.hid fun w1 W q e K h st => by
      have h9 := select_st h st hp1 (by omega) (by omega)
      obtain ⟨k1, k2⟩ := sw1 st hf
      rw [k2, k1, e1] at h9
      refine h9.mono ?_
      rintro en w' ⟨v', e', h1, h2, h3, h4⟩
      rw [hpa, hpn]
      exact ⟨v', e', h1, h2, h3, h4⟩
    have HR1 : Hid (∀ w1 W q e K, LW w1 W q e K → look e.ch pa pn = some ⟨pa, pn, 1, f + 96, s⟩ → Calls Tryz.prog 18 #[.pointer (some ⟨q, 0, none⟩), .agg #[.int .u32 (pa : Int), .int .u8 (pn : Int)]] W fun en w' => en = .returned (.tuple #[.agg #[.int .u32 (pa : Int), .int .u8 (pn : Int), .int .i64 1, .int .u16 (((f : Nat) : Int) + 96), .int .u16 (s : Int)], .bool true]) ∧ LW w1 w' q e K) := Lib.hid fun w1 W q e K h hl => by
      have h9 := route_lw h pa pn hpl
      rw [hl] at h9
      exact h9
    by_cases hlt : g < f
    · by_cases hs : f < g + 96
      · have f15 : ((g : Int) == (f : Int)) = false := by simp; omega
        have f17 : decide ((f : Int) < (g : Int) + 96) = true := by simp; omega
        have HS2 : Hid (∀ w1 W q e K, LW w1 W q e K → St 96 96 p (Eg.one (pA p) (pN p) 1 s f 2 ++ Eg.one (pA p) (pN p) 2 s g 2) (some (s, f + 96)) 2 0 2 e → Calls Tryz.prog 17 #[.pointer (some ⟨q, 0, none⟩)] W fun en w' => ∃ v' e', en = .returned v' ∧ LW w1 w' q e' K ∧ look e'.ch pa pn = some ⟨pa, pn, 2, g + 96, s⟩ ∧ St 96 96 p (Eg.one (pA p) (pN p) 1 s f 2 ++ Eg.one (pA p) (pN p) 2 s g 2) (some (s, g + 96)) 5 2 3 e') := Lib.hid fun w1 W q e K h st => by
          have h9 := select_st h st hp2 (by omega) (by omega)
          obtain ⟨k1, k2⟩ := sw2 st hf hgf
          rw [k2, k1, e2, if_pos hlt] at h9
          refine h9.mono ?_
          rintro en w' ⟨v', e', h1, h2, h3, h4⟩
          rw [hpa, hpn]
          exact ⟨v', e', h1, h2, h3, h4⟩
        have HR2 : Hid (∀ w1 W q e K, LW w1 W q e K → look e.ch pa pn = some ⟨pa, pn, 2, g + 96, s⟩ → Calls Tryz.prog 18 #[.pointer (some ⟨q, 0, none⟩), .agg #[.int .u32 (pa : Int), .int .u8 (pn : Int)]] W fun en w' => en = .returned (.tuple #[.agg #[.int .u32 (pa : Int), .int .u8 (pn : Int), .int .i64 2, .int .u16 (((g : Nat) : Int) + 96), .int .u16 (s : Int)], .bool true]) ∧ LW w1 w' q e K) := Lib.hid fun w1 W q e K h hl => by
          have h9 := route_lw h pa pn hpl
          rw [hl] at h9
          exact h9
        have HS3 : Hid (∀ w1 W q e K, LW w1 W q e K → St 96 96 p (Eg.one (pA p) (pN p) 1 s f 2) (some (s, g + 96)) 5 2 3 e → Calls Tryz.prog 17 #[.pointer (some ⟨q, 0, none⟩)] W fun en w' => ∃ v' e', en = .returned v' ∧ LW w1 w' q e' K ∧ look e'.ch pa pn = some ⟨pa, pn, 1, f + 96, s⟩ ∧ St 96 96 p (Eg.one (pA p) (pN p) 1 s f 2) (mkTo (some (s, g + 96)) (e.f.best (pA p) (pN p)) (selP e.cf e.f (Eg.one (pA p) (pN p) 1 s f 2) (pA p) (pN p))) 7 5 2 e') := Lib.hid fun w1 W q e K h st => by
          have h9 := select_st h st hp1 (by omega) (by omega)
          rw [e1] at h9
          have k1 := sw3 st hf hgf
          rw [if_pos hs] at k1
          refine h9.mono ?_
          rintro en w' ⟨v', e', h1, h2, h3, h4⟩
          rw [hpa, hpn]
          exact ⟨v', e', h1, h2, h3.trans k1, h4⟩
        have HR3 : Hid (∀ w1 W q e K, LW w1 W q e K → look e.ch pa pn = some ⟨pa, pn, 1, f + 96, s⟩ → Calls Tryz.prog 18 #[.pointer (some ⟨q, 0, none⟩), .agg #[.int .u32 (pa : Int), .int .u8 (pn : Int)]] W fun en w' => en = .returned (.tuple #[.agg #[.int .u32 (pa : Int), .int .u8 (pn : Int), .int .i64 1, .int .u16 (((f : Nat) : Int) + 96), .int .u16 (s : Int)], .bool true]) ∧ LW w1 w' q e K) := Lib.hid fun w1 W q e K h hl => by
          have h9 := route_lw h pa pn hpl
          rw [hl] at h9
          exact h9
        clear hpa hpn hpl hl1 hl2 hp1 hp2 e1 e2
        go_enter Tryz.func11, Tryz.ntmps11
        go_upto_region 8 with (first
          | (go_at_call 13; (with_reducible refine (awake_any w HT.out).mono ?_); rintro en wa ⟨rfl, hB⟩; have HA := Lib.hid (And.intro hB (Lk.tab_below HT.out hB h0)); clear hB)
          | (go_at_call 14; (with_reducible refine (HM.out _ HA.out.2).mono ?_); rintro en w2 ⟨q, w1, rfl, hB, hL⟩; have H1 := Lib.hid (HA.out.1.trans (hB.mono HA.out.1.size)); have HL := Lib.hid hL; clear hB hL HM)
          | (go_at_call 16; (with_reducible refine (CU1.out _).mono ?_); rintro en w3 ⟨rfl, hB⟩; have HL3 := Lib.hid (HL.out.step hB); clear hB HL CU1)
          | (go_at_call 15; (with_reducible refine (HH1.out _ _ _ _ _ HL3.out HM0.out).mono ?_); rintro en w4 ⟨rfl, e4, hL, st⟩; have HL4 := Lib.hid hL; have HT4 := Lib.hid st; clear hL st HL3 HH1)
          | (go_at_call 17; (with_reducible refine (HS1.out _ _ _ _ _ HL4.out HT4.out).mono ?_); rintro en w5 ⟨v5, e5, rfl, hL, hlk, st⟩; have HL5 := Lib.hid hL; have HK5 := Lib.hid hlk; have HT5 := Lib.hid st; clear hL hlk st HL4 HT4 HS1)
          | (go_at_call 19; (with_reducible refine (CP.out _).mono ?_); rintro en w6 ⟨rfl, hB⟩; have HL6 := Lib.hid (HL5.out.step hB); clear hB HL5)
          | (go_at_call 18; (with_reducible refine (HR1.out _ _ _ _ _ HL6.out HK5.out).mono ?_); rintro en w7 ⟨rfl, hL⟩; have HL7 := Lib.hid hL; clear hL HL6 HK5 HR1))
        have HL8 := Lib.hid (HL7.out.add #[.int .u32 (pa : Int), .int .u8 (pn : Int), .int .i64 1, .int .u16 (((f : Nat) : Int) + 96), .int .u16 (s : Int)] 40)
        clear HL7
        generalize World.alloc w7 _ = w8 at *
        generalize w7.heap.size = ba at *
        go_upto_region 11 with (first
          | (go_at_call 16; (with_reducible refine (CU2.out _).mono ?_); rintro en w9 ⟨rfl, hB⟩; have HL9 := Lib.hid (HL8.out.step hB); clear hB HL8 CU2)
          | (go_at_call 15; (with_reducible refine (HH2.out _ _ _ _ _ HL9.out HT5.out).mono ?_); rintro en wb ⟨rfl, eb, hL, st⟩; have HLb := Lib.hid hL; have HTb := Lib.hid st; clear hL st HL9 HT5 HH2)
          | (go_at_call 17; (with_reducible refine (HS2.out _ _ _ _ _ HLb.out HTb.out).mono ?_); rintro en wc ⟨vc, ec, rfl, hL, hlk, st⟩; have HLc := Lib.hid hL; have HKc := Lib.hid hlk; have HTc := Lib.hid st; clear hL hlk st HLb HTb HS2)
          | (go_at_call 19; (with_reducible refine (CP.out _).mono ?_); rintro en wd ⟨rfl, hB⟩; have HLd := Lib.hid (HLc.out.step hB); clear hB HLc)
          | (go_at_call 18; (with_reducible refine (HR2.out _ _ _ _ _ HLd.out HKc.out).mono ?_); rintro en we ⟨rfl, hL⟩; have HLe := Lib.hid hL; clear hL HLd HKc HR2))
        have HLf := Lib.hid (HLe.out.add #[.int .u32 (pa : Int), .int .u8 (pn : Int), .int .i64 2, .int .u16 (((g : Nat) : Int) + 96), .int .u16 (s : Int)] 40)
        clear HLe
        generalize World.alloc we _ = wf at *
        generalize we.heap.size = bb at *
        go_upto_region 14 with (first
          | (go_at_call 16; (with_reducible refine (CU3.out _).mono ?_); rintro en wg ⟨rfl, hB⟩; have HLg := Lib.hid (HLf.out.step hB); clear hB HLf CU3)
          | (go_at_call 15; (with_reducible refine (HH3.out _ _ _ _ _ HLg.out HTc.out).mono ?_); rintro en wh ⟨rfl, eh, hL, st⟩; have HLh := Lib.hid hL; have HTh := Lib.hid st; clear hL st HLg HTc HH3)
          | (go_at_call 17; (with_reducible refine (HS3.out _ _ _ _ _ HLh.out HTh.out).mono ?_); rintro en wi ⟨vi, ei, rfl, hL, hlk, st⟩; have HLi := Lib.hid hL; have HKi := Lib.hid hlk; clear hL hlk st HLh HTh HS3)
          | (go_at_call 19; (with_reducible refine (CP.out _).mono ?_); rintro en wj ⟨rfl, hB⟩; have HLj := Lib.hid (HLi.out.step hB); clear hB HLi)
          | (go_at_call 18; (with_reducible refine (HR3.out _ _ _ _ _ HLj.out HKi.out).mono ?_); rintro en wk ⟨rfl, hL⟩; have HLk := Lib.hid hL; clear hL HLj HKi HR3))
        have HLl := Lib.hid (HLk.out.add #[.int .u32 (pa : Int), .int .u8 (pn : Int), .int .i64 1, .int .u16 (((f : Nat) : Int) + 96), .int .u16 (s : Int)] 40)
        clear HLk
        generalize World.alloc wk _ = wl at *
        generalize wk.heap.size = bc at *
        have HBl := Lib.hid (H1.out.trans (HLl.out.b.mono H1.out.size))
        have HRc := Lib.hid (HLl.out.row (List.mem_cons_self ..))
        have HRb := Lib.hid (HLl.out.row (List.mem_cons_of_mem _ (List.mem_cons_self ..)))
        have HRa := Lib.hid (HLl.out.row (List.mem_cons_of_mem _ (List.mem_cons_of_mem _ (List.mem_cons_self ..))))
        clear HLl
        obtain ⟨a0, a1, a2, a3, a4, -⟩ := row5' HRa.out
        obtain ⟨k0, k1, k2, k3, k4, -⟩ := row5' HRb.out
        obtain ⟨m0, m1, m2, m3, m4, -⟩ := row5' HRc.out
        have la := (Array.getElem?_eq_some_iff.1 HRa.out).1
        have lb := (Array.getElem?_eq_some_iff.1 HRb.out).1
        have lc := (Array.getElem?_eq_some_iff.1 HRc.out).1
        go_wp2
        go_ret
        exact ⟨rfl, HBl.out⟩
      · have f15 : ((g : Int) == (f : Int)) = false := by simp; omega
        have f17 : decide ((f : Int) < (g : Int) + 96) = false := by simp; omega
        have HS2 : Hid (∀ w1 W q e K, LW w1 W q e K → St 96 96 p (Eg.one (pA p) (pN p) 1 s f 2 ++ Eg.one (pA p) (pN p) 2 s g 2) (some (s, f + 96)) 2 0 2 e → Calls Tryz.prog 17 #[.pointer (some ⟨q, 0, none⟩)] W fun en w' => ∃ v' e', en = .returned v' ∧ LW w1 w' q e' K ∧ look e'.ch pa pn = some ⟨pa, pn, 2, g + 96, s⟩ ∧ St 96 96 p (Eg.one (pA p) (pN p) 1 s f 2 ++ Eg.one (pA p) (pN p) 2 s g 2) (some (s, g + 96)) 5 2 3 e') := Lib.hid fun w1 W q e K h st => by
          have h9 := select_st h st hp2 (by omega) (by omega)
          obtain ⟨k1, k2⟩ := sw2 st hf hgf
          rw [k2, k1, e2, if_pos hlt] at h9
          refine h9.mono ?_
          rintro en w' ⟨v', e', h1, h2, h3, h4⟩
          rw [hpa, hpn]
          exact ⟨v', e', h1, h2, h3, h4⟩
        have HR2 : Hid (∀ w1 W q e K, LW w1 W q e K → look e.ch pa pn = some ⟨pa, pn, 2, g + 96, s⟩ → Calls Tryz.prog 18 #[.pointer (some ⟨q, 0, none⟩), .agg #[.int .u32 (pa : Int), .int .u8 (pn : Int)]] W fun en w' => en = .returned (.tuple #[.agg #[.int .u32 (pa : Int), .int .u8 (pn : Int), .int .i64 2, .int .u16 (((g : Nat) : Int) + 96), .int .u16 (s : Int)], .bool true]) ∧ LW w1 w' q e K) := Lib.hid fun w1 W q e K h hl => by
          have h9 := route_lw h pa pn hpl
          rw [hl] at h9
          exact h9
        have HS3 : Hid (∀ w1 W q e K, LW w1 W q e K → St 96 96 p (Eg.one (pA p) (pN p) 1 s f 2) (some (s, g + 96)) 5 2 3 e → Calls Tryz.prog 17 #[.pointer (some ⟨q, 0, none⟩)] W fun en w' => ∃ v' e', en = .returned v' ∧ LW w1 w' q e' K ∧ look e'.ch pa pn = none ∧ St 96 96 p (Eg.one (pA p) (pN p) 1 s f 2) (mkTo (some (s, g + 96)) (e.f.best (pA p) (pN p)) (selP e.cf e.f (Eg.one (pA p) (pN p) 1 s f 2) (pA p) (pN p))) 7 5 2 e') := Lib.hid fun w1 W q e K h st => by
          have h9 := select_st h st hp1 (by omega) (by omega)
          rw [e1] at h9
          have k1 := sw3 st hf hgf
          rw [if_neg hs] at k1
          refine h9.mono ?_
          rintro en w' ⟨v', e', h1, h2, h3, h4⟩
          rw [hpa, hpn]
          exact ⟨v', e', h1, h2, h3.trans k1, h4⟩
        have HR3 : Hid (∀ w1 W q e K, LW w1 W q e K → look e.ch pa pn = none → Calls Tryz.prog 18 #[.pointer (some ⟨q, 0, none⟩), .agg #[.int .u32 (pa : Int), .int .u8 (pn : Int)]] W fun en w' => en = .returned (.tuple #[.agg #[.int .u32 0, .int .u8 0, .int .i64 0, .int .u16 0, .int .u16 0], .bool false]) ∧ LW w1 w' q e K) := Lib.hid fun w1 W q e K h hl => by
          have h9 := route_lw h pa pn hpl
          rw [hl] at h9
          exact h9
        clear hpa hpn hpl hl1 hl2 hp1 hp2 e1 e2
        go_enter Tryz.func11, Tryz.ntmps11
        go_upto_region 8 with (first
          | (go_at_call 13; (with_reducible refine (awake_any w HT.out).mono ?_); rintro en wa ⟨rfl, hB⟩; have HA := Lib.hid (And.intro hB (Lk.tab_below HT.out hB h0)); clear hB)
          | (go_at_call 14; (with_reducible refine (HM.out _ HA.out.2).mono ?_); rintro en w2 ⟨q, w1, rfl, hB, hL⟩; have H1 := Lib.hid (HA.out.1.trans (hB.mono HA.out.1.size)); have HL := Lib.hid hL; clear hB hL HM)
          | (go_at_call 16; (with_reducible refine (CU1.out _).mono ?_); rintro en w3 ⟨rfl, hB⟩; have HL3 := Lib.hid (HL.out.step hB); clear hB HL CU1)
          | (go_at_call 15; (with_reducible refine (HH1.out _ _ _ _ _ HL3.out HM0.out).mono ?_); rintro en w4 ⟨rfl, e4, hL, st⟩; have HL4 := Lib.hid hL; have HT4 := Lib.hid st; clear hL st HL3 HH1)
          | (go_at_call 17; (with_reducible refine (HS1.out _ _ _ _ _ HL4.out HT4.out).mono ?_); rintro en w5 ⟨v5, e5, rfl, hL, hlk, st⟩; have HL5 := Lib.hid hL; have HK5 := Lib.hid hlk; have HT5 := Lib.hid st; clear hL hlk st HL4 HT4 HS1)
          | (go_at_call 19; (with_reducible refine (CP.out _).mono ?_); rintro en w6 ⟨rfl, hB⟩; have HL6 := Lib.hid (HL5.out.step hB); clear hB HL5)
          | (go_at_call 18; (with_reducible refine (HR1.out _ _ _ _ _ HL6.out HK5.out).mono ?_); rintro en w7 ⟨rfl, hL⟩; have HL7 := Lib.hid hL; clear hL HL6 HK5 HR1))
        have HL8 := Lib.hid (HL7.out.add #[.int .u32 (pa : Int), .int .u8 (pn : Int), .int .i64 1, .int .u16 (((f : Nat) : Int) + 96), .int .u16 (s : Int)] 40)
        clear HL7
        generalize World.alloc w7 _ = w8 at *
        generalize w7.heap.size = ba at *
        go_upto_region 11 with (first
          | (go_at_call 16; (with_reducible refine (CU2.out _).mono ?_); rintro en w9 ⟨rfl, hB⟩; have HL9 := Lib.hid (HL8.out.step hB); clear hB HL8 CU2)
          | (go_at_call 15; (with_reducible refine (HH2.out _ _ _ _ _ HL9.out HT5.out).mono ?_); rintro en wb ⟨rfl, eb, hL, st⟩; have HLb := Lib.hid hL; have HTb := Lib.hid st; clear hL st HL9 HT5 HH2)
          | (go_at_call 17; (with_reducible refine (HS2.out _ _ _ _ _ HLb.out HTb.out).mono ?_); rintro en wc ⟨vc, ec, rfl, hL, hlk, st⟩; have HLc := Lib.hid hL; have HKc := Lib.hid hlk; have HTc := Lib.hid st; clear hL hlk st HLb HTb HS2)
          | (go_at_call 19; (with_reducible refine (CP.out _).mono ?_); rintro en wd ⟨rfl, hB⟩; have HLd := Lib.hid (HLc.out.step hB); clear hB HLc)
          | (go_at_call 18; (with_reducible refine (HR2.out _ _ _ _ _ HLd.out HKc.out).mono ?_); rintro en we ⟨rfl, hL⟩; have HLe := Lib.hid hL; clear hL HLd HKc HR2))
        have HLf := Lib.hid (HLe.out.add #[.int .u32 (pa : Int), .int .u8 (pn : Int), .int .i64 2, .int .u16 (((g : Nat) : Int) + 96), .int .u16 (s : Int)] 40)
        clear HLe
        generalize World.alloc we _ = wf at *
        generalize we.heap.size = bb at *
        go_upto_region 14 with (first
          | (go_at_call 16; (with_reducible refine (CU3.out _).mono ?_); rintro en wg ⟨rfl, hB⟩; have HLg := Lib.hid (HLf.out.step hB); clear hB HLf CU3)
          | (go_at_call 15; (with_reducible refine (HH3.out _ _ _ _ _ HLg.out HTc.out).mono ?_); rintro en wh ⟨rfl, eh, hL, st⟩; have HLh := Lib.hid hL; have HTh := Lib.hid st; clear hL st HLg HTc HH3)
          | (go_at_call 17; (with_reducible refine (HS3.out _ _ _ _ _ HLh.out HTh.out).mono ?_); rintro en wi ⟨vi, ei, rfl, hL, hlk, st⟩; have HLi := Lib.hid hL; have HKi := Lib.hid hlk; clear hL hlk st HLh HTh HS3)
          | (go_at_call 19; (with_reducible refine (CP.out _).mono ?_); rintro en wj ⟨rfl, hB⟩; have HLj := Lib.hid (HLi.out.step hB); clear hB HLi)
          | (go_at_call 18; (with_reducible refine (HR3.out _ _ _ _ _ HLj.out HKi.out).mono ?_); rintro en wk ⟨rfl, hL⟩; have HLk := Lib.hid hL; clear hL HLj HKi HR3))
        have HLl := Lib.hid (HLk.out.add #[.int .u32 0, .int .u8 0, .int .i64 0, .int .u16 0, .int .u16 0] 40)
        clear HLk
        generalize World.alloc wk _ = wl at *
        generalize wk.heap.size = bc at *
        have HBl := Lib.hid (H1.out.trans (HLl.out.b.mono H1.out.size))
        have HRc := Lib.hid (HLl.out.row (List.mem_cons_self ..))
        have HRb := Lib.hid (HLl.out.row (List.mem_cons_of_mem _ (List.mem_cons_self ..)))
        have HRa := Lib.hid (HLl.out.row (List.mem_cons_of_mem _ (List.mem_cons_of_mem _ (List.mem_cons_self ..))))
        clear HLl
        obtain ⟨a0, a1, a2, a3, a4, -⟩ := row5' HRa.out
        obtain ⟨k0, k1, k2, k3, k4, -⟩ := row5' HRb.out
        obtain ⟨m0, m1, m2, m3, m4, -⟩ := row5' HRc.out
        have la := (Array.getElem?_eq_some_iff.1 HRa.out).1
        have lb := (Array.getElem?_eq_some_iff.1 HRb.out).1
        have lc := (Array.getElem?_eq_some_iff.1 HRc.out).1
        go_wp2
        go_ret
        exact ⟨rfl, HBl.out⟩
    · obtain rfl : f = g := by omega
      have HS2 : Hid (∀ w1 W q e K, LW w1 W q e K → St 96 96 p (Eg.one (pA p) (pN p) 1 s f 2 ++ Eg.one (pA p) (pN p) 2 s f 2) (some (s, f + 96)) 2 0 2 e → Calls Tryz.prog 17 #[.pointer (some ⟨q, 0, none⟩)] W fun en w' => ∃ v' e', en = .returned v' ∧ LW w1 w' q e' K ∧ look e'.ch pa pn = some ⟨pa, pn, 1, f + 96, s⟩ ∧ St 96 96 p (Eg.one (pA p) (pN p) 1 s f 2 ++ Eg.one (pA p) (pN p) 2 s f 2) (some (s, f + 96)) 5 2 3 e') := Lib.hid fun w1 W q e K h st => by
        have h9 := select_st h st hp2 (by omega) (by omega)
        obtain ⟨k1, k2⟩ := sw2 st hf hgf
        rw [k2, k1, e2, if_neg hlt] at h9
        refine h9.mono ?_
        rintro en w' ⟨v', e', h1, h2, h3, h4⟩
        rw [hpa, hpn]
        exact ⟨v', e', h1, h2, h3, h4⟩
      have HR2 : Hid (∀ w1 W q e K, LW w1 W q e K → look e.ch pa pn = some ⟨pa, pn, 1, f + 96, s⟩ → Calls Tryz.prog 18 #[.pointer (some ⟨q, 0, none⟩), .agg #[.int .u32 (pa : Int), .int .u8 (pn : Int)]] W fun en w' => en = .returned (.tuple #[.agg #[.int .u32 (pa : Int), .int .u8 (pn : Int), .int .i64 1, .int .u16 (((f : Nat) : Int) + 96), .int .u16 (s : Int)], .bool true]) ∧ LW w1 w' q e K) := Lib.hid fun w1 W q e K h hl => by
        have h9 := route_lw h pa pn hpl
        rw [hl] at h9
        exact h9
      have HS3 : Hid (∀ w1 W q e K, LW w1 W q e K → St 96 96 p (Eg.one (pA p) (pN p) 1 s f 2) (some (s, f + 96)) 5 2 3 e → Calls Tryz.prog 17 #[.pointer (some ⟨q, 0, none⟩)] W fun en w' => ∃ v' e', en = .returned v' ∧ LW w1 w' q e' K ∧ look e'.ch pa pn = some ⟨pa, pn, 1, f + 96, s⟩ ∧ St 96 96 p (Eg.one (pA p) (pN p) 1 s f 2) (mkTo (some (s, f + 96)) (e.f.best (pA p) (pN p)) (selP e.cf e.f (Eg.one (pA p) (pN p) 1 s f 2) (pA p) (pN p))) 7 5 2 e') := Lib.hid fun w1 W q e K h st => by
        have h9 := select_st h st hp1 (by omega) (by omega)
        rw [e1] at h9
        have k1 := sw3 st hf hgf
        rw [if_pos (by omega)] at k1
        refine h9.mono ?_
        rintro en w' ⟨v', e', h1, h2, h3, h4⟩
        rw [hpa, hpn]
        exact ⟨v', e', h1, h2, h3.trans k1, h4⟩
      have HR3 : Hid (∀ w1 W q e K, LW w1 W q e K → look e.ch pa pn = some ⟨pa, pn, 1, f + 96, s⟩ → Calls Tryz.prog 18 #[.pointer (some ⟨q, 0, none⟩), .agg #[.int .u32 (pa : Int), .int .u8 (pn : Int)]] W fun en w' => en = .returned (.tuple #[.agg #[.int .u32 (pa : Int), .int .u8 (pn : Int), .int .i64 1, .int .u16 (((f : Nat) : Int) + 96), .int .u16 (s : Int)], .bool true]) ∧ LW w1 w' q e K) := Lib.hid fun w1 W q e K h hl => by
        have h9 := route_lw h pa pn hpl
        rw [hl] at h9
        exact h9
      clear hpa hpn hpl hl1 hl2 hp1 hp2 e1 e2
      go_enter Tryz.func11, Tryz.ntmps11
      go_upto_region 8 with (first
        | (go_at_call 13; (with_reducible refine (awake_any w HT.out).mono ?_); rintro en wa ⟨rfl, hB⟩; have HA := Lib.hid (And.intro hB (Lk.tab_below HT.out hB h0)); clear hB)
        | (go_at_call 14; (with_reducible refine (HM.out _ HA.out.2).mono ?_); rintro en w2 ⟨q, w1, rfl, hB, hL⟩; have H1 := Lib.hid (HA.out.1.trans (hB.mono HA.out.1.size)); have HL := Lib.hid hL; clear hB hL HM)
        | (go_at_call 16; (with_reducible refine (CU1.out _).mono ?_); rintro en w3 ⟨rfl, hB⟩; have HL3 := Lib.hid (HL.out.step hB); clear hB HL CU1)
        | (go_at_call 15; (with_reducible refine (HH1.out _ _ _ _ _ HL3.out HM0.out).mono ?_); rintro en w4 ⟨rfl, e4, hL, st⟩; have HL4 := Lib.hid hL; have HT4 := Lib.hid st; clear hL st HL3 HH1)
        | (go_at_call 17; (with_reducible refine (HS1.out _ _ _ _ _ HL4.out HT4.out).mono ?_); rintro en w5 ⟨v5, e5, rfl, hL, hlk, st⟩; have HL5 := Lib.hid hL; have HK5 := Lib.hid hlk; have HT5 := Lib.hid st; clear hL hlk st HL4 HT4 HS1)
        | (go_at_call 19; (with_reducible refine (CP.out _).mono ?_); rintro en w6 ⟨rfl, hB⟩; have HL6 := Lib.hid (HL5.out.step hB); clear hB HL5)
        | (go_at_call 18; (with_reducible refine (HR1.out _ _ _ _ _ HL6.out HK5.out).mono ?_); rintro en w7 ⟨rfl, hL⟩; have HL7 := Lib.hid hL; clear hL HL6 HK5 HR1))
      have HL8 := Lib.hid (HL7.out.add #[.int .u32 (pa : Int), .int .u8 (pn : Int), .int .i64 1, .int .u16 (((f : Nat) : Int) + 96), .int .u16 (s : Int)] 40)
      clear HL7
      generalize World.alloc w7 _ = w8 at *
      generalize w7.heap.size = ba at *
      go_upto_region 11 with (first
        | (go_at_call 16; (with_reducible refine (CU2.out _).mono ?_); rintro en w9 ⟨rfl, hB⟩; have HL9 := Lib.hid (HL8.out.step hB); clear hB HL8 CU2)
        | (go_at_call 15; (with_reducible refine (HH2.out _ _ _ _ _ HL9.out HT5.out).mono ?_); rintro en wb ⟨rfl, eb, hL, st⟩; have HLb := Lib.hid hL; have HTb := Lib.hid st; clear hL st HL9 HT5 HH2)
        | (go_at_call 17; (with_reducible refine (HS2.out _ _ _ _ _ HLb.out HTb.out).mono ?_); rintro en wc ⟨vc, ec, rfl, hL, hlk, st⟩; have HLc := Lib.hid hL; have HKc := Lib.hid hlk; have HTc := Lib.hid st; clear hL hlk st HLb HTb HS2)
        | (go_at_call 19; (with_reducible refine (CP.out _).mono ?_); rintro en wd ⟨rfl, hB⟩; have HLd := Lib.hid (HLc.out.step hB); clear hB HLc)
        | (go_at_call 18; (with_reducible refine (HR2.out _ _ _ _ _ HLd.out HKc.out).mono ?_); rintro en we ⟨rfl, hL⟩; have HLe := Lib.hid hL; clear hL HLd HKc HR2))
      have HLf := Lib.hid (HLe.out.add #[.int .u32 (pa : Int), .int .u8 (pn : Int), .int .i64 1, .int .u16 (((f : Nat) : Int) + 96), .int .u16 (s : Int)] 40)
      clear HLe
      generalize World.alloc we _ = wf at *
      generalize we.heap.size = bb at *
      go_upto_region 14 with (first
        | (go_at_call 16; (with_reducible refine (CU3.out _).mono ?_); rintro en wg ⟨rfl, hB⟩; have HLg := Lib.hid (HLf.out.step hB); clear hB HLf CU3)
        | (go_at_call 15; (with_reducible refine (HH3.out _ _ _ _ _ HLg.out HTc.out).mono ?_); rintro en wh ⟨rfl, eh, hL, st⟩; have HLh := Lib.hid hL; have HTh := Lib.hid st; clear hL st HLg HTc HH3)
        | (go_at_call 17; (with_reducible refine (HS3.out _ _ _ _ _ HLh.out HTh.out).mono ?_); rintro en wi ⟨vi, ei, rfl, hL, hlk, st⟩; have HLi := Lib.hid hL; have HKi := Lib.hid hlk; clear hL hlk st HLh HTh HS3)
        | (go_at_call 19; (with_reducible refine (CP.out _).mono ?_); rintro en wj ⟨rfl, hB⟩; have HLj := Lib.hid (HLi.out.step hB); clear hB HLi)
        | (go_at_call 18; (with_reducible refine (HR3.out _ _ _ _ _ HLj.out HKi.out).mono ?_); rintro en wk ⟨rfl, hL⟩; have HLk := Lib.hid hL; clear hL HLj HKi HR3))
      have HLl := Lib.hid (HLk.out.add #[.int .u32 (pa : Int), .int .u8 (pn : Int), .int .i64 1, .int .u16 (((f : Nat) : Int) + 96), .int .u16 (s : Int)] 40)
      clear HLk
      generalize World.alloc wk _ = wl at *
      generalize wk.heap.size = bc at *
      have HBl := Lib.hid (H1.out.trans (HLl.out.b.mono H1.out.size))
      have HRc := Lib.hid (HLl.out.row (List.mem_cons_self ..))
      have HRb := Lib.hid (HLl.out.row (List.mem_cons_of_mem _ (List.mem_cons_self ..)))
      have HRa := Lib.hid (HLl.out.row (List.mem_cons_of_mem _ (List.mem_cons_of_mem _ (List.mem_cons_self ..))))
      clear HLl
      obtain ⟨a0, a1, a2, a3, a4, -⟩ := row5' HRa.out
      obtain ⟨k0, k1, k2, k3, k4, -⟩ := row5' HRb.out
      obtain ⟨m0, m1, m2, m3, m4, -⟩ := row5' HRc.out
      have la := (Array.getElem?_eq_some_iff.1 HRa.out).1
      have lb := (Array.getElem?_eq_some_iff.1 HRb.out).1
      have lc := (Array.getElem?_eq_some_iff.1 HRc.out).1
      go_wp2
      go_ret
      exact ⟨rfl, HBl.out⟩
  · have hd : decide ((30000 : Int) < (f : Int)) = true := by simp; omega
    clear b0 b1 b2 b3 hf
    go_enter Tryz.func11, Tryz.ntmps11
    go_wp2_with (first
      | (go_at_call 13; (with_reducible refine (awake_any w HT.out).mono ?_); rintro en wa ⟨rfl, hB⟩; have HA := Lib.hid (And.intro hB (Lk.tab_below HT.out hB h0)); clear hB)
      | (go_at_call 13; (with_reducible refine (awake_any wa HA.out.2).mono ?_); rintro en wb ⟨rfl, hB⟩; have HB := Lib.hid (HA.out.1.trans (hB.mono HA.out.1.size)); clear hB))
    go_ret
    exact ⟨rfl, HB.out⟩

set_option maxRecDepth 100000 in
theorem lifted (os : Os) (started : os.Started) (H : Type) (enc : TypeId × Value → H) :
    ReturnsInHanded {} Tryz.checked os 11 .any (fun w args => (Rows.engineSwitchesSpec.pre enc Tryz.prog Tryz.f11 Rows.engineSwitchesRow.domain false w args ∧ laidMet Tryz.prog Rows.engineSwitchesRow.laid w) ∧ sizedMet enc Tryz.prog Tryz.f11 (OpenSpec.ofChange Rows.engineSwitchesSpec) false w args)
      (Rows.engineSwitchesSpec.post enc Tryz.prog Tryz.f11 false true false false) := by
  refine returnsInHanded_of_change_and (C := Tryz.checked) (X := fun w _ => laidMet Tryz.prog Rows.engineSwitchesRow.laid w) (fun _ _ _ hh h => h.of_heap hh) own started (by kernel_rfl) Tryz.func11
    (ChangeSpec.witness_at (enc := enc) (C := Tryz.checked) (os := os) (X := fun w _ => laidMet Tryz.prog Rows.engineSwitchesRow.laid w) false (laidWorld os) #[.int .u8 0, .int .u16 0, .int .u16 0, .int .u16 0] 8 rfl (by kernel_rfl) (by kernel_rfl) (by kernel_rfl) (by kernel_rfl) (by kernel_rfl) (laid_met os _)) ?_
  intro W base args ds gs before hval0 hW hcnd _ hL _
  have hval : ∀ (j : Nat) t v, Tryz.f11.params[j]? = some t → args[j]? = some v → Value.okWide Tryz.prog W .any base t v := hval0
  have hW' := hW
  obtain ⟨p, q, hA0, hV, rfl, hfz, hnd⟩ := hW
  have hA : DataW.TrodAll enc Tryz.prog W 0 (fun _ => true) true Tryz.f11.params.toList args.toList ds p := hA0
  rw [Tryz.params11] at hA hval
  obtain ⟨v0, vs0, d0, ds0, p0, q0, hargs, rfl, rfl, h0, r0⟩ := trodAll_cons hA
  obtain ⟨v1, vs1, d1, ds1, p1, q1, rfl, rfl, rfl, h1, r1⟩ := trodAll_cons r0
  obtain ⟨v2, vs2, d2, ds2, p2, q2, rfl, rfl, rfl, h2, r2⟩ := trodAll_cons r1
  obtain ⟨v3, vs3, d3, ds3, p3, q3, rfl, rfl, rfl, h3, r3⟩ := trodAll_cons r2
  obtain ⟨rfl, rfl, rfl⟩ := trodAll_nil r3
  obtain rfl : args = #[v0, v1, v2, v3] := by cases args; simp_all
  obtain ⟨rfl, rfl⟩ := trodVars_none hV
  obtain ⟨a0, rfl, rfl, rfl, w0⟩ := open_int Tryz.underlying5 (hval 0 5 v0 rfl rfl) h0
  obtain ⟨a1, rfl, rfl, rfl, w1⟩ := open_int Tryz.underlying22 (hval 1 22 v1 rfl rfl) h1
  obtain ⟨a2, rfl, rfl, rfl, w2⟩ := open_int Tryz.underlying22 (hval 2 22 v2 rfl rfl) h2
  obtain ⟨a3, rfl, rfl, rfl, w3⟩ := open_int Tryz.underlying22 (hval 3 22 v3 rfl rfl) h3
  clear hA0 hval0
  refine (walk a0 a1 a2 a3 W w0 w1 w2 w3 (Lk.tab_of_laid hL)).mono fun e W' ⟨he, bel⟩ => ?_
  subst he
  exact ⟨_, rfl, _, _, _, [], _, [], hW', trodAll_mk1 (shut_bool Tryz.underlying4 _), (trodAll_cons_mk (shut_int Tryz.underlying5 w0) (trodAll_cons_mk (shut_int Tryz.underlying22 w1) (trodAll_cons_mk (shut_int Tryz.underlying22 w2) (trodAll_cons_mk (shut_int Tryz.underlying22 w3) trodAll_mk0)))), rfl, bel.frame _, fun h => by cases h⟩

theorem over : Rows.engineSwitchesRow.holds Tryz.pinned (OpenSpec.ofChange Rows.engineSwitchesSpec) :=
  OpenClaim.holds_of_wide 11 Tryz.f11 rfl rfl rfl rfl rfl rfl rfl ⟨rfl, rfl, rfl, rfl, rfl⟩ rfl rfl rfl rfl rfl (by kernel_rfl) Tryz.func11 (by kernel_rfl)
    (of_decide_eq_true (by kernel_rfl)) (by unfold Func.isWrapper; first | (rw [if_pos (by decide +kernel)]; kernel_rfl) | (rw [if_neg (by decide +kernel)]; exact ⟨rfl, rfl⟩))
    (fun os started H enc _ => lifted os started H enc)

theorem proved : Rows.EngineSwitchesCardSaid :=
  Claim7.holds_tied_plain_at .later [] [.data] true (true, "73430b27a30ada73018fe7c3192a9fa6d4b7bfc394d4113e0a57e1736d749f34") false
    over (fun _ h => by cases h) (by kernel_rfl) (fun _ h => by cases h) engineSwitches_row_tie rfl ⟨rfl, rfl⟩ (by kernel_rfl) rfl
    (fun f fn hf hfn => by
      obtain rfl : f = 11 := Option.some.inj ((show Tryz.prog.funcNamed "milestone/milestonelaw17.EngineSwitches" = some 11 by kernel_rfl).symm.trans hf) |>.symm
      obtain rfl : fn = Tryz.f11 := (Option.some.inj (Tryz.func11.symm.trans hfn)).symm
      exact ⟨by kernel_rfl, fun j t ht => by
        rw [Tryz.params11] at ht
        have hm : t ∈ [5, 22, 22, 22] := by simpa using Array.mem_of_getElem? ht
        have hall : ([5, 22, 22, 22].all fun u => !Tryz.prog.wantsStandIn u) = true := by kernel_rfl
        exact (show Tryz.prog.wantsStandIn t = false by simpa using List.all_eq_true.1 hall t hm)⟩)
    (by kernel_rfl)
#print axioms proved
end Go.Proofs.YtjbogjbopgcbhaaGreatDoor.Eg.engineSwitches
