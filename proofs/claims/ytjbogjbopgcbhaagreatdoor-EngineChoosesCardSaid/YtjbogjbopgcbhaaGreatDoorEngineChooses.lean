/-
  'For every input the Go function milestonelaw17.EngineChooses returns true, and each argument reads behind the call as it read before.'
  Conditions: none but the row's own (linux/amd64, sizes of what is read within the address space).
-/
import Derived.Test.YtjbogjbopgcbhaaGreatDoorRows
import Derived.WalkKit
import Derived.ProofKit
import Derived.OpenShut
import Derived.ShutString
import Derived.ChangeOld
import Derived.Below
import Derived.Lib.SmallJoins
import Derived.Lib.Hide
import Derived.Test.YtjbogjbopgcbhaaGreatDoorZN
import Derived.Test.YtjbogjbopgcbhaaGreatDoorZLaid
import Derived.Test.YtjbogjbopgcbhaaGreatDoorCards
import Derived.Test.YtjbogjbopgcbhaaGreatDoorTie
import Derived.SevenTiedAt
import Derived.Laws.Closers25b
namespace Go.Proofs.YtjbogjbopgcbhaaGreatDoor.Eg.engineChooses
open Pre
open Ser
open Rts
open Go.Proofs.YtjbogjbopgcbhaaGreatDoor.Src (row1 row2 Mk SrcAt pA pN)
open Go.Proofs.YtjbogjbopgcbhaaGreatDoor.Lk (laidWorld laid_met)
open Go.ChangeShapes Go.WideShapes Go.ChangeAt Go.RowKit
open Go.ChangeMaps (open_string shut_string)
set_option linter.unusedVariables false
set_option maxRecDepth 8000

theorem own : ownKnob Tryz.prog.godebug = none := by kernel_rfl
theorem laidOut : laidOutB Tryz.prog = true := by kernel_rfl

set_option maxHeartbeats 16000000 in
theorem walk (a0 : Int) (a1 : Int) (a2 : Int) (a3 : Int) (a4 : Int) (a5 : Int) (w : World) (w0 : (Lit.int .u16 a0).wf = true) (w1 : (Lit.int .u16 a1).wf = true) (w2 : (Lit.int .u16 a2).wf = true) (w3 : (Lit.int .u16 a3).wf = true) (w4 : (Lit.int .u8 a4).wf = true) (w5 : (Lit.int .u16 a5).wf = true) (hp : Lk.Tab w) :
    Calls Tryz.prog 3 #[.int .u16 a0, .int .u16 a1, .int .u16 a2, .int .u16 a3, .int .u8 a4, .int .u16 a5] w fun e w' => e = .returned (.bool true) ∧ Below w.heap.size w w' := by
  have b0 := bounds_u16 w0
  have b1 := bounds_u16 w1
  have b2 := bounds_u16 w2
  have b3 := bounds_u16 w3
  have b4 := bounds_u8 w4
  have b5 := bounds_u16 w5
  obtain ⟨a, rfl⟩ := Int.eq_ofNat_of_zero_le b0.1
  obtain ⟨b, rfl⟩ := Int.eq_ofNat_of_zero_le b1.1
  obtain ⟨x, rfl⟩ := Int.eq_ofNat_of_zero_le b2.1
  obtain ⟨y, rfl⟩ := Int.eq_ofNat_of_zero_le b3.1
  obtain ⟨p, rfl⟩ := Int.eq_ofNat_of_zero_le b4.1
  obtain ⟨s, rfl⟩ := Int.eq_ofNat_of_zero_le b5.1
  clear w0 w1 w2 w3 w4 w5
  have h0 := Lk.tab_size hp
  have HT := Lib.hid hp
  clear hp
  have HM : Hid (∀ W, Lk.Tab W → Calls Tryz.prog 14 #[.int .u16 (a : Int), .int .u16 (b : Int)] W fun en w' => ∃ q w1, en = .returned (.pointer (some ⟨q, 0, none⟩)) ∧ Below W.heap.size W w1 ∧ LW w1 w' q (Eng.m0 a b) []) := Lib.hid fun W h => met_any W a b (by omega) (by omega) h
  have hx : x ≤ 65535 := by omega
  have hy : y ≤ 65535 := by omega
  obtain ⟨pa, hpa⟩ : ∃ pa, pa = pA p := ⟨_, rfl⟩
  obtain ⟨pn, hpn⟩ : ∃ pn, pn = pN p := ⟨_, rfl⟩
  have hok1 : (uP pa pn s x).Ok := by rw [hpa, hpn]; exact uP_ok (by omega) hx
  have hok2 : (uP pa pn s y).Ok := by rw [hpa, hpn]; exact uP_ok (by omega) hy
  have CP : Hid (∀ W, Calls Tryz.prog 19 #[.int .u8 (p : Int)] W fun e w' => e = .returned (.agg #[.int .u32 (pa : Int), .int .u8 (pn : Int)]) ∧ Below W.heap.size W w') := Lib.hid fun W => by rw [hpa, hpn]; exact Src.prefix_n p (by omega) W
  have CU1 : Hid (∀ W, Calls Tryz.prog 16 #[.int .u8 (p : Int), .int .u16 (s : Int), .int .u16 (x : Int)] W fun en w' => en = .returned (.agg #[.int .u8 3, .int .u64 0, .int .i64 3, .int .u32 (pa : Int), .int .u8 (pn : Int), .int .u16 (s : Int), .int .u16 (x : Int)]) ∧ Below W.heap.size W w') := Lib.hid fun W => by rw [hpa, hpn]; exact up_any W p s x (by omega)
  have CU2 : Hid (∀ W, Calls Tryz.prog 16 #[.int .u8 (p : Int), .int .u16 (s : Int), .int .u16 (y : Int)] W fun en w' => en = .returned (.agg #[.int .u8 3, .int .u64 0, .int .i64 3, .int .u32 (pa : Int), .int .u8 (pn : Int), .int .u16 (s : Int), .int .u16 (y : Int)]) ∧ Below W.heap.size W w') := Lib.hid fun W => by rw [hpa, hpn]; exact up_any W p s y (by omega)
  have CA := Lib.hid (fun W => priced_any W a (by omega))
  have CB := Lib.hid (fun W => priced_any W b (by omega))
  obtain ⟨e1, he1⟩ : ∃ e1, e1 = (Eng.m0 a b).upd 1 2 (uP pa pn s x) := ⟨_, rfl⟩
  obtain ⟨e2, he2⟩ : ∃ e2, e2 = e1.upd 2 2 (uP pa pn s y) := ⟨_, rfl⟩
  have h1 : e1 = { Eng.m0 a b with L := Eg.one pa pn 1 s x 2 } := by
    rw [he1, hpa, hpn, upd_p (m0_met a b)]
    show ({ Eng.m0 a b with L := tellL [] 1 2 _ } : Eng) = _
    rw [tell_one]
  have m1 : Eg.Met a b e1 := by rw [h1]; exact (m0_met a b).up _
  have h2 : e2 = { Eng.m0 a b with L := Eg.one pa pn 1 s x 2 ++ Eg.one pa pn 2 s y 2 } := by
    rw [he2, hpa, hpn, upd_p m1, h1, hpa, hpn]
    show ({ Eng.m0 a b with L := tellL (Eg.one _ _ 1 s x 2) 2 2 _ } : Eng) = _
    rw [tell_two]
  have m2 : Eg.Met a b e2 := by rw [h2]; exact (m0_met a b).up _
  have l1 : e1.L.length ≤ 100 := by rw [h1]; exact Nat.le_trans (one_len ..) (by decide)
  have l2 : e2.L.length ≤ 2 := by rw [h2]; show (Eg.one pa pn 1 s x 2 ++ Eg.one pa pn 2 s y 2).length ≤ 2; rw [List.length_append]; have := one_len pa pn 1 s x 2; have := one_len pa pn 2 s y 2; omega
  have so2 : e2.SelOk := m2.sok (fun z hz => by
    rw [h2] at hz
    rcases List.mem_append.1 hz with hz | hz
    · rw [hpa, hpn] at hz; exact one_right z hz
    · rw [hpa, hpn] at hz; exact one_right z hz) (x := 0) (y := 0) (z := 0) (by rw [h2]; exact ⟨Nat.le_refl 0, Nat.le_refl 0, Nat.le_refl 0⟩) (by omega) (by decide)
  have HLK : Hid (∀ e' ts, Sel e2 e' ts → e2.Ok → look e'.ch pa pn = if x + max a 1 < 65535 then (if y + max b 1 < x + max a 1 then some ⟨pa, pn, 2, y + max b 1, s⟩ else some ⟨pa, pn, 1, x + max a 1, s⟩) else (if y + max b 1 < 65535 then some ⟨pa, pn, 2, y + max b 1, s⟩ else none)) := Lib.hid fun e' ts hS hok => by
    have hc := (hS.chose hok so2).1
    rw [hpa, hpn, hc.other _ _ (by have := Src.pN_le p; omega) (m2.p_own p)]
    exact sel0 m2 (by rw [h2]; rfl) (by rw [h2, hpa, hpn]) hx hy
  have hpl : pn < 256 := by rw [hpn]; have := Src.pN_le p; omega
  have HH1 : Hid (∀ w1 W q, LW w1 W q (Eng.m0 a b) [] → Calls Tryz.prog 15 #[.pointer (some ⟨q, 0, none⟩), .agg #[.int .i64 1, .slice (some ⟨W.heap.size, 0, none⟩) 1 1], .int .i64 0, .int .u64 2] (W.alloc (.cells #[.int .u8 3, .int .u64 0, .int .i64 3, .int .u32 (pa : Int), .int .u8 (pn : Int), .int .u16 (s : Int), .int .u16 (x : Int)] 32)) fun en w' => en = .returned (.tuple #[]) ∧ LW w1 w' q e1 []) := Lib.hid fun w1 W q h => by
    rw [he1]
    exact hear_12 (h.add #[.int .u8 3, .int .u64 0, .int .i64 3, .int .u32 (pa : Int), .int .u8 (pn : Int), .int .u16 (s : Int), .int .u16 (x : Int)] 32) (m0_met a b) (row_up W 3 pa pn s x) hok1 rfl (by show 0 ≤ 100; decide)
  have HH2 : Hid (∀ w1 W q, LW w1 W q e1 [] → Calls Tryz.prog 15 #[.pointer (some ⟨q, 0, none⟩), .agg #[.int .i64 2, .slice (some ⟨W.heap.size, 0, none⟩) 1 1], .int .i64 0, .int .u64 2] (W.alloc (.cells #[.int .u8 3, .int .u64 0, .int .i64 3, .int .u32 (pa : Int), .int .u8 (pn : Int), .int .u16 (s : Int), .int .u16 (y : Int)] 32)) fun en w' => en = .returned (.tuple #[]) ∧ LW w1 w' q e2 []) := Lib.hid fun w1 W q h => by
    rw [he2]
    exact hear_22 (h.add #[.int .u8 3, .int .u64 0, .int .i64 3, .int .u32 (pa : Int), .int .u8 (pn : Int), .int .u16 (s : Int), .int .u16 (y : Int)] 32) m1 (row_up W 3 pa pn s y) hok2 rfl l1
  have HS2 : Hid (∀ w1 W q, LW w1 W q e2 [] → Calls Tryz.prog 17 #[.pointer (some ⟨q, 0, none⟩)] W fun en w' => ∃ v' e', en = .returned v' ∧ LW w1 w' q e' [] ∧ look e'.ch pa pn = if x + max a 1 < 65535 then (if y + max b 1 < x + max a 1 then some ⟨pa, pn, 2, y + max b 1, s⟩ else some ⟨pa, pn, 1, x + max a 1, s⟩) else (if y + max b 1 < 65535 then some ⟨pa, pn, 2, y + max b 1, s⟩ else none)) := Lib.hid fun w1 W q h => (select_lw h so2).mono fun en w' ⟨v', e', ts, h1, h2, h3, _⟩ => ⟨v', e', h1, h3, HLK.out e' ts h2 h.ok⟩
  obtain ⟨c1, hc1⟩ : ∃ c1, c1 = max a 1 := ⟨_, rfl⟩
  obtain ⟨c2, hc2⟩ : ∃ c2, c2 = max b 1 := ⟨_, rfl⟩
  rw [← hc1] at CA
  rw [← hc2] at CB
  rw [← hc1, ← hc2] at HS2
  have hb1 : c1 ≤ 65535 := by omega
  have hb2 : c2 ≤ 65535 := by omega
  clear hpa hpn hok1 hok2 h1 h2 m1 m2 l1 l2 so2 HLK he1 he2 hc1 hc2 b0 b1 b2 b3 b4
  go_enter Tryz.func3, Tryz.ntmps3
  go_upto_region 7 with (first
    | (go_at_call 13; (with_reducible refine (awake_any w HT.out).mono ?_); rintro en wa ⟨rfl, hB⟩; have HA := Lib.hid (And.intro hB (Lk.tab_below HT.out hB h0)); clear hB)
    | (go_at_call 14; (with_reducible refine (HM.out _ HA.out.2).mono ?_); rintro en w2 ⟨q, w1, rfl, hB, hL⟩; have H1 := Lib.hid (HA.out.1.trans (hB.mono HA.out.1.size)); have HL := Lib.hid hL; clear hB hL HM)
    | (go_at_call 16; (with_reducible refine (CU1.out _).mono ?_); rintro en w3 ⟨rfl, hB⟩; have HL3 := Lib.hid (HL.out.step hB); clear hB HL CU1)
    | (go_at_call 16; (with_reducible refine (CU2.out _).mono ?_); rintro en w5 ⟨rfl, hB⟩; have HL5 := Lib.hid (HL4.out.step hB); clear hB HL4 CU2)
    | (go_at_call 15; (with_reducible refine (HH1.out _ _ _ HL3.out).mono ?_); rintro en w4 ⟨rfl, hL⟩; have HL4 := Lib.hid hL; clear hL HL3 HH1)
    | (go_at_call 15; (with_reducible refine (HH2.out _ _ _ HL5.out).mono ?_); rintro en w6 ⟨rfl, hL⟩; have HL6 := Lib.hid hL; clear hL HL5 HH2)
    | (go_at_call 17; (with_reducible refine (HS2.out _ _ _ HL6.out).mono ?_); rintro en w7 ⟨v7, e7, rfl, hL, hlk⟩; have HL7 := Lib.hid hL; have HK := Lib.hid hlk; clear hL hlk HL6 HS2))
  have HRT : Hid (∀ W, LW w1 W q e7 [] → Calls Tryz.prog 18 #[.pointer (some ⟨q, 0, none⟩), .agg #[.int .u32 (pa : Int), .int .u8 (pn : Int)]] W fun en w' => en = .returned (lookV (look e7.ch pa pn)) ∧ LW w1 w' q e7 []) := Lib.hid fun W h => route_lw h pa pn hpl
  have hcs : (x + c1 < 65535 ∧ ¬ y + c2 < x + c1) ∨ (y + c2 < 65535 ∧ (x + c1 < 65535 → y + c2 < x + c1)) ∨ (¬ x + c1 < 65535 ∧ ¬ y + c2 < 65535) := by omega
  rcases hcs with hcs | hcs | hcs
  · rw [if_pos hcs.1, if_neg hcs.2] at HK
    have HRU : Hid (∀ W, LW w1 W q e7 [] → Calls Tryz.prog 18 #[.pointer (some ⟨q, 0, none⟩), .agg #[.int .u32 (pa : Int), .int .u8 (pn : Int)]] W fun en w' => en = .returned (.tuple #[.agg #[.int .u32 (pa : Int), .int .u8 (pn : Int), .int .i64 1, .int .u16 ((x + c1 : Nat) : Int), .int .u16 (s : Int)], .bool true]) ∧ LW w1 w' q e7 []) := Lib.hid fun W h => by
      have h9 := HRT.out W h
      rw [HK.out] at h9
      exact h9
    clear HRT HK
    go_upto_region 8 with (first
      | (go_at_call 19; (with_reducible refine (CP.out _).mono ?_); rintro en w8 ⟨rfl, hB⟩; have HL8 := Lib.hid (HL7.out.step hB); clear hB)
      | (go_at_call 18; (with_reducible refine (HRU.out _ HL8.out).mono ?_); rintro en w9 ⟨rfl, hL⟩; have HB9 := Lib.hid (H1.out.trans (hL.b.mono H1.out.size)); clear hL HRU))
    have HBX := Lib.hid (And.intro (heap_alloc_new w9 (.cells #[.int .u32 (pa : Int), .int .u8 (pn : Int), .int .i64 1, .int .u16 ((x : Int) + (c1 : Int)), .int .u16 (s : Int)] 40)) (HB9.out.alloc HB9.out.size (.cells #[.int .u32 (pa : Int), .int .u8 (pn : Int), .int .i64 1, .int .u16 ((x : Int) + (c1 : Int)), .int .u16 (s : Int)] 40)))
    generalize World.alloc w9 _ = wx at *
    generalize w9.heap.size = bx at *
    go_upto_region 12 with (first
      | (go_at_call 20; (with_reducible refine (CA.out _).mono ?_); rintro en wk ⟨rfl, rfl⟩)
      | (go_at_call 20; (with_reducible refine (CB.out _).mono ?_); rintro en wk ⟨rfl, rfl⟩))
    by_cases hD : y + c2 < 65535
    · have fx1 : ((x : Int) == 65535) = false := by simp; omega
      have fx2 : ((c1 : Int) == 65535) = false := by simp; omega
      have fx3 : decide ((65535 : Int) ≤ (x : Int) + (c1 : Int)) = false := by simp; omega
      have fx4 : ((x : Int) + (c1 : Int) == 65535) = false := by simp; omega
      have fy1 : ((y : Int) == 65535) = false := by simp; omega
      have fy2 : ((c2 : Int) == 65535) = false := by simp; omega
      have fy3 : decide ((65535 : Int) ≤ (y : Int) + (c2 : Int)) = false := by simp; omega
      have fy4 : ((y : Int) + (c2 : Int) == 65535) = false := by simp; omega
      have f19 : decide ((y : Int) + (c2 : Int) < (x : Int) + (c1 : Int)) = false := by simp; omega
      go_upto_region 22 with (fail)
      have HWR : Hid (IntKind.u16.wrap ((x : Int) + (c1 : Int)) = (x : Int) + (c1 : Int)) := Lib.hid (by rw [IntKind.wrap_u16]; omega)
      refine wp_region_noPanic ?_
      refine wp_region_held_drew (S := fun y9 : World => Below wx.heap.size wx y9) (by kernel_rfl) ((Below.refl _ _).drew) (fun hHeld => ?_)
      generalize wx.drew = wd at *
      refine wpAnyH_take (i := 0) (oi := { dst := some 95, op := Op.move (Operand.tmp 15), type := 4, pos := "law.go:70", after := #[], guard := none }) (v := .bool true) rfl (by kernel_rfl) (by kernel_rfl) (by kernel_rfl) (fun _ _ _ h => h) (Or.inl ⟨by rfl, fun w hSw => by go_simp⟩) (by assumption) ?_
      try simp only [Act.put, List.setIfInBounds_toArray, List.set_cons_zero, List.set_cons_succ]
      refine wpAnyH_take (i := 1) (oi := { dst := some 96, op := Op.move (Operand.tmp 95), type := 4, pos := "law.go:70", after := #[{ on := 0, ground := Ground.data }], guard := none }) (v := .bool true) rfl (by kernel_rfl) (by kernel_rfl) (by kernel_rfl) (fun _ _ _ h => h) (Or.inl ⟨by rfl, fun w hSw => by go_simp⟩) (by assumption) ?_
      try simp only [Act.put, List.setIfInBounds_toArray, List.set_cons_zero, List.set_cons_succ]
      refine wpAnyH_take (i := 2) (oi := { dst := some 97, op := Op.load 40 (Operand.tmp 14), type := 40, pos := "law.go:70", after := #[{ on := 1, ground := Ground.guard }], guard := some (1, true) }) (v := .agg #[.int .u32 (pa : Int), .int .u8 (pn : Int), .int .i64 1, .int .u16 ((x : Int) + (c1 : Int)), .int .u16 (s : Int)]) rfl (by kernel_rfl) (by kernel_rfl) (by kernel_rfl) (fun _ _ _ h => h) (Or.inl ⟨by rfl, fun w hSw => by obtain ⟨k0, k1, k2, k3, k4, -⟩ := row5' (brow hSw HBX.out.1); go_simp⟩) (by assumption) ?_
      try simp only [Act.put, List.setIfInBounds_toArray, List.set_cons_zero, List.set_cons_succ]
      refine wpAnyH_take (i := 3) (oi := { dst := some 98, op := Op.move (Operand.tmp 4), type := 5, pos := "law.go:70", after := #[{ on := 1, ground := Ground.guard }], guard := some (1, true) }) (v := .int .u8 (p : Int)) rfl (by kernel_rfl) (by kernel_rfl) (by kernel_rfl) (fun _ _ _ h => h) (Or.inl ⟨by rfl, fun w hSw => by go_simp⟩) (by assumption) ?_
      try simp only [Act.put, List.setIfInBounds_toArray, List.set_cons_zero, List.set_cons_succ]
      refine wpAnyH_take (i := 5) (oi := { dst := some 100, op := Op.move (Operand.tmp 20), type := 3, pos := "law.go:70", after := #[{ on := 1, ground := Ground.guard }], guard := some (1, true) }) (v := .int .i64 1) rfl (by kernel_rfl) (by kernel_rfl) (by kernel_rfl) (fun _ _ _ h => h) (Or.inl ⟨by rfl, fun w hSw => by go_simp⟩) (by assumption) ?_
      try simp only [Act.put, List.setIfInBounds_toArray, List.set_cons_zero, List.set_cons_succ]
      refine wpAnyH_take (i := 6) (oi := { dst := some 101, op := Op.move (Operand.tmp 18), type := 3, pos := "law.go:70", after := #[{ on := 1, ground := Ground.guard }], guard := some (1, true) }) (v := .int .i64 ((x : Int) + (c1 : Int))) rfl (by kernel_rfl) (by kernel_rfl) (by kernel_rfl) (fun _ _ _ h => h) (Or.inl ⟨by rfl, fun w hSw => by go_simp⟩) (by assumption) ?_
      try simp only [Act.put, List.setIfInBounds_toArray, List.set_cons_zero, List.set_cons_succ]
      refine wpAnyH_take (i := 7) (oi := { dst := some 102, op := Op.convert 3 22 (Operand.tmp 101), type := 22, pos := "law.go:70", after := #[{ on := 6, ground := Ground.data }, { on := 1, ground := Ground.guard }], guard := some (1, true) }) (v := .int .u16 ((x : Int) + (c1 : Int))) rfl (by kernel_rfl) (by kernel_rfl) (by kernel_rfl) (fun _ _ _ h => h) (Or.inl ⟨by rfl, fun w hSw => by have hwr := HWR.out; go_simp⟩) (by assumption) ?_
      try simp only [Act.put, List.setIfInBounds_toArray, List.set_cons_zero, List.set_cons_succ]
      refine wpAnyH_take (i := 8) (oi := { dst := some 103, op := Op.move (Operand.tmp 5), type := 22, pos := "law.go:70", after := #[{ on := 1, ground := Ground.guard }], guard := some (1, true) }) (v := .int .u16 (s : Int)) rfl (by kernel_rfl) (by kernel_rfl) (by kernel_rfl) (fun _ _ _ h => h) (Or.inl ⟨by rfl, fun w hSw => by go_simp⟩) (by assumption) ?_
      try simp only [Act.put, List.setIfInBounds_toArray, List.set_cons_zero, List.set_cons_succ]
      refine wpAnyH_ready (rs := [4]) (by kernel_rfl) (by simp) ?_
      refine (AllReadyH.cons (o := { dst := some 99, op := Op.call { callee := Callee.value (Operand.func 19), args := #[Operand.tmp 98], argTypes := #[5] }, type := 30, pos := "law.go:70", after := #[{ on := 3, ground := Ground.data }, { on := 1, ground := Ground.chain }, { on := 1, ground := Ground.guard }], guard := some (1, true) }) rfl (fun K hK => ?_) AllReadyH.nil)
      go_simp
      with_reducible refine (CP.out _).mono ?_
      rintro en wd2 ⟨rfl, B3⟩
      refine hK.out _ _ (hHeld.trans (B3.mono hHeld.size)) (fun hHeld2 => ?_)
      clear hK K hHeld
      have hHeld := hHeld2
      clear hHeld2
      try simp only [Act.put, List.setIfInBounds_toArray, List.set_cons_zero, List.set_cons_succ]
      clear B3
      generalize wd2 = wd at *
      refine wpAnyH_take (i := 9) (oi := { dst := some 104, op := Op.build 40 #[(0, Operand.tmp 99), (1, Operand.tmp 100), (2, Operand.tmp 102), (3, Operand.tmp 103)], type := 40, pos := "law.go:70", after := #[{ on := 4, ground := Ground.data }, { on := 5, ground := Ground.data }, { on := 7, ground := Ground.data }, { on := 8, ground := Ground.data }, { on := 1, ground := Ground.guard }], guard := some (1, true) }) (v := .agg #[.int .u32 (pa : Int), .int .u8 (pn : Int), .int .i64 1, .int .u16 ((x : Int) + (c1 : Int)), .int .u16 (s : Int)]) rfl (by kernel_rfl) (by kernel_rfl) (by kernel_rfl) (fun _ _ _ h => h) (Or.inl ⟨by rfl, fun w hSw => by go_simp⟩) (by assumption) ?_
      try simp only [Act.put, List.setIfInBounds_toArray, List.set_cons_zero, List.set_cons_succ]
      refine wpAnyH_take (i := 10) (oi := { dst := some 105, op := Op.binOp BinOp.eql 40 (Operand.tmp 97) (Operand.tmp 104) 40, type := 4, pos := "law.go:70", after := #[{ on := 2, ground := Ground.data }, { on := 9, ground := Ground.data }, { on := 1, ground := Ground.guard }], guard := some (1, true) }) (v := .bool true) rfl (by kernel_rfl) (by kernel_rfl) (by kernel_rfl) (fun _ _ _ h => h) (Or.inl ⟨by rfl, fun w hSw => by go_simp⟩) (by assumption) ?_
      try simp only [Act.put, List.setIfInBounds_toArray, List.set_cons_zero, List.set_cons_succ]
      refine wpAnyH_take (i := 11) (oi := { dst := some 106, op := Op.pick (Operand.tmp 96) (Operand.tmp 105) (Operand.const (Value.bool false)), type := 4, pos := "law.go:70", after := #[{ on := 1, ground := Ground.data }, { on := 10, ground := Ground.data }], guard := none }) (v := .bool true) rfl (by kernel_rfl) (by kernel_rfl) (by kernel_rfl) (fun _ _ _ h => h) (Or.inl ⟨by rfl, fun w hSw => by go_simp⟩) (by assumption) ?_
      try simp only [Act.put, List.setIfInBounds_toArray, List.set_cons_zero, List.set_cons_succ]
      refine wpAnyH_take (i := 12) (oi := { dst := some 12, op := Op.assign (Operand.tmp 106), type := 4, pos := "law.go:70", after := #[{ on := 11, ground := Ground.data }, { on := 4, ground := Ground.chain }, { on := 0, ground := Ground.phase }, { on := 1, ground := Ground.phase }, { on := 2, ground := Ground.phase }, { on := 3, ground := Ground.phase }, { on := 4, ground := Ground.phase }, { on := 5, ground := Ground.phase }, { on := 6, ground := Ground.phase }, { on := 7, ground := Ground.phase }, { on := 8, ground := Ground.phase }, { on := 9, ground := Ground.phase }, { on := 10, ground := Ground.phase }, { on := 11, ground := Ground.phase }], guard := none }) (v := .bool true) rfl (by kernel_rfl) (by kernel_rfl) (by kernel_rfl) (fun _ _ _ h => h) (Or.inl ⟨by rfl, fun w hSw => by go_simp⟩) (by assumption) ?_
      try simp only [Act.put, List.setIfInBounds_toArray, List.set_cons_zero, List.set_cons_succ]
      refine wpAnyH_done (by kernel_rfl) ?_ _
      try unfold NoPanic
      have HD := Lib.hid hHeld
      clear hHeld
      go_wp2
      go_ret
      exact ⟨rfl, HBX.out.2.trans (HD.out.mono HBX.out.2.size)⟩
    · have h3 : y = 65535 ∨ (y ≠ 65535 ∧ c2 = 65535) ∨ (y ≠ 65535 ∧ c2 ≠ 65535 ∧ 65535 ≤ y + c2) := by omega
      rcases h3 with h3 | h3 | h3
      · have fx1 : ((x : Int) == 65535) = false := by simp; omega
        have fx2 : ((c1 : Int) == 65535) = false := by simp; omega
        have fx3 : decide ((65535 : Int) ≤ (x : Int) + (c1 : Int)) = false := by simp; omega
        have fx4 : ((x : Int) + (c1 : Int) == 65535) = false := by simp; omega
        have fy1 : ((y : Int) == 65535) = true := by simp; omega
        have f19 : decide ((65535 : Int) < (x : Int) + (c1 : Int)) = false := by simp; omega
        go_upto_region 22 with (fail)
        have HWR : Hid (IntKind.u16.wrap ((x : Int) + (c1 : Int)) = (x : Int) + (c1 : Int)) := Lib.hid (by rw [IntKind.wrap_u16]; omega)
        refine wp_region_noPanic ?_
        refine wp_region_held_drew (S := fun y9 : World => Below wx.heap.size wx y9) (by kernel_rfl) ((Below.refl _ _).drew) (fun hHeld => ?_)
        generalize wx.drew = wd at *
        refine wpAnyH_take (i := 0) (oi := { dst := some 95, op := Op.move (Operand.tmp 15), type := 4, pos := "law.go:70", after := #[], guard := none }) (v := .bool true) rfl (by kernel_rfl) (by kernel_rfl) (by kernel_rfl) (fun _ _ _ h => h) (Or.inl ⟨by rfl, fun w hSw => by go_simp⟩) (by assumption) ?_
        try simp only [Act.put, List.setIfInBounds_toArray, List.set_cons_zero, List.set_cons_succ]
        refine wpAnyH_take (i := 1) (oi := { dst := some 96, op := Op.move (Operand.tmp 95), type := 4, pos := "law.go:70", after := #[{ on := 0, ground := Ground.data }], guard := none }) (v := .bool true) rfl (by kernel_rfl) (by kernel_rfl) (by kernel_rfl) (fun _ _ _ h => h) (Or.inl ⟨by rfl, fun w hSw => by go_simp⟩) (by assumption) ?_
        try simp only [Act.put, List.setIfInBounds_toArray, List.set_cons_zero, List.set_cons_succ]
        refine wpAnyH_take (i := 2) (oi := { dst := some 97, op := Op.load 40 (Operand.tmp 14), type := 40, pos := "law.go:70", after := #[{ on := 1, ground := Ground.guard }], guard := some (1, true) }) (v := .agg #[.int .u32 (pa : Int), .int .u8 (pn : Int), .int .i64 1, .int .u16 ((x : Int) + (c1 : Int)), .int .u16 (s : Int)]) rfl (by kernel_rfl) (by kernel_rfl) (by kernel_rfl) (fun _ _ _ h => h) (Or.inl ⟨by rfl, fun w hSw => by obtain ⟨k0, k1, k2, k3, k4, -⟩ := row5' (brow hSw HBX.out.1); go_simp⟩) (by assumption) ?_
        try simp only [Act.put, List.setIfInBounds_toArray, List.set_cons_zero, List.set_cons_succ]
        refine wpAnyH_take (i := 3) (oi := { dst := some 98, op := Op.move (Operand.tmp 4), type := 5, pos := "law.go:70", after := #[{ on := 1, ground := Ground.guard }], guard := some (1, true) }) (v := .int .u8 (p : Int)) rfl (by kernel_rfl) (by kernel_rfl) (by kernel_rfl) (fun _ _ _ h => h) (Or.inl ⟨by rfl, fun w hSw => by go_simp⟩) (by assumption) ?_
        try simp only [Act.put, List.setIfInBounds_toArray, List.set_cons_zero, List.set_cons_succ]
        refine wpAnyH_take (i := 5) (oi := { dst := some 100, op := Op.move (Operand.tmp 20), type := 3, pos := "law.go:70", after := #[{ on := 1, ground := Ground.guard }], guard := some (1, true) }) (v := .int .i64 1) rfl (by kernel_rfl) (by kernel_rfl) (by kernel_rfl) (fun _ _ _ h => h) (Or.inl ⟨by rfl, fun w hSw => by go_simp⟩) (by assumption) ?_
        try simp only [Act.put, List.setIfInBounds_toArray, List.set_cons_zero, List.set_cons_succ]
        refine wpAnyH_take (i := 6) (oi := { dst := some 101, op := Op.move (Operand.tmp 18), type := 3, pos := "law.go:70", after := #[{ on := 1, ground := Ground.guard }], guard := some (1, true) }) (v := .int .i64 ((x : Int) + (c1 : Int))) rfl (by kernel_rfl) (by kernel_rfl) (by kernel_rfl) (fun _ _ _ h => h) (Or.inl ⟨by rfl, fun w hSw => by go_simp⟩) (by assumption) ?_
        try simp only [Act.put, List.setIfInBounds_toArray, List.set_cons_zero, List.set_cons_succ]
        refine wpAnyH_take (i := 7) (oi := { dst := some 102, op := Op.convert 3 22 (Operand.tmp 101), type := 22, pos := "law.go:70", after := #[{ on := 6, ground := Ground.data }, { on := 1, ground := Ground.guard }], guard := some (1, true) }) (v := .int .u16 ((x : Int) + (c1 : Int))) rfl (by kernel_rfl) (by kernel_rfl) (by kernel_rfl) (fun _ _ _ h => h) (Or.inl ⟨by rfl, fun w hSw => by have hwr := HWR.out; go_simp⟩) (by assumption) ?_
        try simp only [Act.put, List.setIfInBounds_toArray, List.set_cons_zero, List.set_cons_succ]
        refine wpAnyH_take (i := 8) (oi := { dst := some 103, op := Op.move (Operand.tmp 5), type := 22, pos := "law.go:70", after := #[{ on := 1, ground := Ground.guard }], guard := some (1, true) }) (v := .int .u16 (s : Int)) rfl (by kernel_rfl) (by kernel_rfl) (by kernel_rfl) (fun _ _ _ h => h) (Or.inl ⟨by rfl, fun w hSw => by go_simp⟩) (by assumption) ?_
        try simp only [Act.put, List.setIfInBounds_toArray, List.set_cons_zero, List.set_cons_succ]
        refine wpAnyH_ready (rs := [4]) (by kernel_rfl) (by simp) ?_
        refine (AllReadyH.cons (o := { dst := some 99, op := Op.call { callee := Callee.value (Operand.func 19), args := #[Operand.tmp 98], argTypes := #[5] }, type := 30, pos := "law.go:70", after := #[{ on := 3, ground := Ground.data }, { on := 1, ground := Ground.chain }, { on := 1, ground := Ground.guard }], guard := some (1, true) }) rfl (fun K hK => ?_) AllReadyH.nil)
        go_simp
        with_reducible refine (CP.out _).mono ?_
        rintro en wd2 ⟨rfl, B3⟩
        refine hK.out _ _ (hHeld.trans (B3.mono hHeld.size)) (fun hHeld2 => ?_)
        clear hK K hHeld
        have hHeld := hHeld2
        clear hHeld2
        try simp only [Act.put, List.setIfInBounds_toArray, List.set_cons_zero, List.set_cons_succ]
        clear B3
        generalize wd2 = wd at *
        refine wpAnyH_take (i := 9) (oi := { dst := some 104, op := Op.build 40 #[(0, Operand.tmp 99), (1, Operand.tmp 100), (2, Operand.tmp 102), (3, Operand.tmp 103)], type := 40, pos := "law.go:70", after := #[{ on := 4, ground := Ground.data }, { on := 5, ground := Ground.data }, { on := 7, ground := Ground.data }, { on := 8, ground := Ground.data }, { on := 1, ground := Ground.guard }], guard := some (1, true) }) (v := .agg #[.int .u32 (pa : Int), .int .u8 (pn : Int), .int .i64 1, .int .u16 ((x : Int) + (c1 : Int)), .int .u16 (s : Int)]) rfl (by kernel_rfl) (by kernel_rfl) (by kernel_rfl) (fun _ _ _ h => h) (Or.inl ⟨by rfl, fun w hSw => by go_simp⟩) (by assumption) ?_
        try simp only [Act.put, List.setIfInBounds_toArray, List.set_cons_zero, List.set_cons_succ]
        refine wpAnyH_take (i := 10) (oi := { dst := some 105, op := Op.binOp BinOp.eql 40 (Operand.tmp 97) (Operand.tmp 104) 40, type := 4, pos := "law.go:70", after := #[{ on := 2, ground := Ground.data }, { on := 9, ground := Ground.data }, { on := 1, ground := Ground.guard }], guard := some (1, true) }) (v := .bool true) rfl (by kernel_rfl) (by kernel_rfl) (by kernel_rfl) (fun _ _ _ h => h) (Or.inl ⟨by rfl, fun w hSw => by go_simp⟩) (by assumption) ?_
        try simp only [Act.put, List.setIfInBounds_toArray, List.set_cons_zero, List.set_cons_succ]
        refine wpAnyH_take (i := 11) (oi := { dst := some 106, op := Op.pick (Operand.tmp 96) (Operand.tmp 105) (Operand.const (Value.bool false)), type := 4, pos := "law.go:70", after := #[{ on := 1, ground := Ground.data }, { on := 10, ground := Ground.data }], guard := none }) (v := .bool true) rfl (by kernel_rfl) (by kernel_rfl) (by kernel_rfl) (fun _ _ _ h => h) (Or.inl ⟨by rfl, fun w hSw => by go_simp⟩) (by assumption) ?_
        try simp only [Act.put, List.setIfInBounds_toArray, List.set_cons_zero, List.set_cons_succ]
        refine wpAnyH_take (i := 12) (oi := { dst := some 12, op := Op.assign (Operand.tmp 106), type := 4, pos := "law.go:70", after := #[{ on := 11, ground := Ground.data }, { on := 4, ground := Ground.chain }, { on := 0, ground := Ground.phase }, { on := 1, ground := Ground.phase }, { on := 2, ground := Ground.phase }, { on := 3, ground := Ground.phase }, { on := 4, ground := Ground.phase }, { on := 5, ground := Ground.phase }, { on := 6, ground := Ground.phase }, { on := 7, ground := Ground.phase }, { on := 8, ground := Ground.phase }, { on := 9, ground := Ground.phase }, { on := 10, ground := Ground.phase }, { on := 11, ground := Ground.phase }], guard := none }) (v := .bool true) rfl (by kernel_rfl) (by kernel_rfl) (by kernel_rfl) (fun _ _ _ h => h) (Or.inl ⟨by rfl, fun w hSw => by go_simp⟩) (by assumption) ?_
        try simp only [Act.put, List.setIfInBounds_toArray, List.set_cons_zero, List.set_cons_succ]
        refine wpAnyH_done (by kernel_rfl) ?_ _
        try unfold NoPanic
        have HD := Lib.hid hHeld
        clear hHeld
        go_wp2
        go_ret
        exact ⟨rfl, HBX.out.2.trans (HD.out.mono HBX.out.2.size)⟩
      · have fx1 : ((x : Int) == 65535) = false := by simp; omega
        have fx2 : ((c1 : Int) == 65535) = false := by simp; omega
        have fx3 : decide ((65535 : Int) ≤ (x : Int) + (c1 : Int)) = false := by simp; omega
        have fx4 : ((x : Int) + (c1 : Int) == 65535) = false := by simp; omega
        have fy1 : ((y : Int) == 65535) = false := by simp; omega
        have fy2 : ((c2 : Int) == 65535) = true := by simp; omega
        have f19 : decide ((65535 : Int) < (x : Int) + (c1 : Int)) = false := by simp; omega
        go_upto_region 22 with (fail)
        have HWR : Hid (IntKind.u16.wrap ((x : Int) + (c1 : Int)) = (x : Int) + (c1 : Int)) := Lib.hid (by rw [IntKind.wrap_u16]; omega)
        refine wp_region_noPanic ?_
        refine wp_region_held_drew (S := fun y9 : World => Below wx.heap.size wx y9) (by kernel_rfl) ((Below.refl _ _).drew) (fun hHeld => ?_)
        generalize wx.drew = wd at *
        refine wpAnyH_take (i := 0) (oi := { dst := some 95, op := Op.move (Operand.tmp 15), type := 4, pos := "law.go:70", after := #[], guard := none }) (v := .bool true) rfl (by kernel_rfl) (by kernel_rfl) (by kernel_rfl) (fun _ _ _ h => h) (Or.inl ⟨by rfl, fun w hSw => by go_simp⟩) (by assumption) ?_
        try simp only [Act.put, List.setIfInBounds_toArray, List.set_cons_zero, List.set_cons_succ]
        refine wpAnyH_take (i := 1) (oi := { dst := some 96, op := Op.move (Operand.tmp 95), type := 4, pos := "law.go:70", after := #[{ on := 0, ground := Ground.data }], guard := none }) (v := .bool true) rfl (by kernel_rfl) (by kernel_rfl) (by kernel_rfl) (fun _ _ _ h => h) (Or.inl ⟨by rfl, fun w hSw => by go_simp⟩) (by assumption) ?_
        try simp only [Act.put, List.setIfInBounds_toArray, List.set_cons_zero, List.set_cons_succ]
        refine wpAnyH_take (i := 2) (oi := { dst := some 97, op := Op.load 40 (Operand.tmp 14), type := 40, pos := "law.go:70", after := #[{ on := 1, ground := Ground.guard }], guard := some (1, true) }) (v := .agg #[.int .u32 (pa : Int), .int .u8 (pn : Int), .int .i64 1, .int .u16 ((x : Int) + (c1 : Int)), .int .u16 (s : Int)]) rfl (by kernel_rfl) (by kernel_rfl) (by kernel_rfl) (fun _ _ _ h => h) (Or.inl ⟨by rfl, fun w hSw => by obtain ⟨k0, k1, k2, k3, k4, -⟩ := row5' (brow hSw HBX.out.1); go_simp⟩) (by assumption) ?_
        try simp only [Act.put, List.setIfInBounds_toArray, List.set_cons_zero, List.set_cons_succ]
        refine wpAnyH_take (i := 3) (oi := { dst := some 98, op := Op.move (Operand.tmp 4), type := 5, pos := "law.go:70", after := #[{ on := 1, ground := Ground.guard }], guard := some (1, true) }) (v := .int .u8 (p : Int)) rfl (by kernel_rfl) (by kernel_rfl) (by kernel_rfl) (fun _ _ _ h => h) (Or.inl ⟨by rfl, fun w hSw => by go_simp⟩) (by assumption) ?_
        try simp only [Act.put, List.setIfInBounds_toArray, List.set_cons_zero, List.set_cons_succ]
        refine wpAnyH_take (i := 5) (oi := { dst := some 100, op := Op.move (Operand.tmp 20), type := 3, pos := "law.go:70", after := #[{ on := 1, ground := Ground.guard }], guard := some (1, true) }) (v := .int .i64 1) rfl (by kernel_rfl) (by kernel_rfl) (by kernel_rfl) (fun _ _ _ h => h) (Or.inl ⟨by rfl, fun w hSw => by go_simp⟩) (by assumption) ?_
        try simp only [Act.put, List.setIfInBounds_toArray, List.set_cons_zero, List.set_cons_succ]
        refine wpAnyH_take (i := 6) (oi := { dst := some 101, op := Op.move (Operand.tmp 18), type := 3, pos := "law.go:70", after := #[{ on := 1, ground := Ground.guard }], guard := some (1, true) }) (v := .int .i64 ((x : Int) + (c1 : Int))) rfl (by kernel_rfl) (by kernel_rfl) (by kernel_rfl) (fun _ _ _ h => h) (Or.inl ⟨by rfl, fun w hSw => by go_simp⟩) (by assumption) ?_
        try simp only [Act.put, List.setIfInBounds_toArray, List.set_cons_zero, List.set_cons_succ]
        refine wpAnyH_take (i := 7) (oi := { dst := some 102, op := Op.convert 3 22 (Operand.tmp 101), type := 22, pos := "law.go:70", after := #[{ on := 6, ground := Ground.data }, { on := 1, ground := Ground.guard }], guard := some (1, true) }) (v := .int .u16 ((x : Int) + (c1 : Int))) rfl (by kernel_rfl) (by kernel_rfl) (by kernel_rfl) (fun _ _ _ h => h) (Or.inl ⟨by rfl, fun w hSw => by have hwr := HWR.out; go_simp⟩) (by assumption) ?_
        try simp only [Act.put, List.setIfInBounds_toArray, List.set_cons_zero, List.set_cons_succ]
        refine wpAnyH_take (i := 8) (oi := { dst := some 103, op := Op.move (Operand.tmp 5), type := 22, pos := "law.go:70", after := #[{ on := 1, ground := Ground.guard }], guard := some (1, true) }) (v := .int .u16 (s : Int)) rfl (by kernel_rfl) (by kernel_rfl) (by kernel_rfl) (fun _ _ _ h => h) (Or.inl ⟨by rfl, fun w hSw => by go_simp⟩) (by assumption) ?_
        try simp only [Act.put, List.setIfInBounds_toArray, List.set_cons_zero, List.set_cons_succ]
        refine wpAnyH_ready (rs := [4]) (by kernel_rfl) (by simp) ?_
        refine (AllReadyH.cons (o := { dst := some 99, op := Op.call { callee := Callee.value (Operand.func 19), args := #[Operand.tmp 98], argTypes := #[5] }, type := 30, pos := "law.go:70", after := #[{ on := 3, ground := Ground.data }, { on := 1, ground := Ground.chain }, { on := 1, ground := Ground.guard }], guard := some (1, true) }) rfl (fun K hK => ?_) AllReadyH.nil)
        go_simp
        with_reducible refine (CP.out _).mono ?_
        rintro en wd2 ⟨rfl, B3⟩
        refine hK.out _ _ (hHeld.trans (B3.mono hHeld.size)) (fun hHeld2 => ?_)
        clear hK K hHeld
        have hHeld := hHeld2
        clear hHeld2
        try simp only [Act.put, List.setIfInBounds_toArray, List.set_cons_zero, List.set_cons_succ]
        clear B3
        generalize wd2 = wd at *
        refine wpAnyH_take (i := 9) (oi := { dst := some 104, op := Op.build 40 #[(0, Operand.tmp 99), (1, Operand.tmp 100), (2, Operand.tmp 102), (3, Operand.tmp 103)], type := 40, pos := "law.go:70", after := #[{ on := 4, ground := Ground.data }, { on := 5, ground := Ground.data }, { on := 7, ground := Ground.data }, { on := 8, ground := Ground.data }, { on := 1, ground := Ground.guard }], guard := some (1, true) }) (v := .agg #[.int .u32 (pa : Int), .int .u8 (pn : Int), .int .i64 1, .int .u16 ((x : Int) + (c1 : Int)), .int .u16 (s : Int)]) rfl (by kernel_rfl) (by kernel_rfl) (by kernel_rfl) (fun _ _ _ h => h) (Or.inl ⟨by rfl, fun w hSw => by go_simp⟩) (by assumption) ?_
        try simp only [Act.put, List.setIfInBounds_toArray, List.set_cons_zero, List.set_cons_succ]
        refine wpAnyH_take (i := 10) (oi := { dst := some 105, op := Op.binOp BinOp.eql 40 (Operand.tmp 97) (Operand.tmp 104) 40, type := 4, pos := "law.go:70", after := #[{ on := 2, ground := Ground.data }, { on := 9, ground := Ground.data }, { on := 1, ground := Ground.guard }], guard := some (1, true) }) (v := .bool true) rfl (by kernel_rfl) (by kernel_rfl) (by kernel_rfl) (fun _ _ _ h => h) (Or.inl ⟨by rfl, fun w hSw => by go_simp⟩) (by assumption) ?_
        try simp only [Act.put, List.setIfInBounds_toArray, List.set_cons_zero, List.set_cons_succ]
        refine wpAnyH_take (i := 11) (oi := { dst := some 106, op := Op.pick (Operand.tmp 96) (Operand.tmp 105) (Operand.const (Value.bool false)), type := 4, pos := "law.go:70", after := #[{ on := 1, ground := Ground.data }, { on := 10, ground := Ground.data }], guard := none }) (v := .bool true) rfl (by kernel_rfl) (by kernel_rfl) (by kernel_rfl) (fun _ _ _ h => h) (Or.inl ⟨by rfl, fun w hSw => by go_simp⟩) (by assumption) ?_
        try simp only [Act.put, List.setIfInBounds_toArray, List.set_cons_zero, List.set_cons_succ]
        refine wpAnyH_take (i := 12) (oi := { dst := some 12, op := Op.assign (Operand.tmp 106), type := 4, pos := "law.go:70", after := #[{ on := 11, ground := Ground.data }, { on := 4, ground := Ground.chain }, { on := 0, ground := Ground.phase }, { on := 1, ground := Ground.phase }, { on := 2, ground := Ground.phase }, { on := 3, ground := Ground.phase }, { on := 4, ground := Ground.phase }, { on := 5, ground := Ground.phase }, { on := 6, ground := Ground.phase }, { on := 7, ground := Ground.phase }, { on := 8, ground := Ground.phase }, { on := 9, ground := Ground.phase }, { on := 10, ground := Ground.phase }, { on := 11, ground := Ground.phase }], guard := none }) (v := .bool true) rfl (by kernel_rfl) (by kernel_rfl) (by kernel_rfl) (fun _ _ _ h => h) (Or.inl ⟨by rfl, fun w hSw => by go_simp⟩) (by assumption) ?_
        try simp only [Act.put, List.setIfInBounds_toArray, List.set_cons_zero, List.set_cons_succ]
        refine wpAnyH_done (by kernel_rfl) ?_ _
        try unfold NoPanic
        have HD := Lib.hid hHeld
        clear hHeld
        go_wp2
        go_ret
        exact ⟨rfl, HBX.out.2.trans (HD.out.mono HBX.out.2.size)⟩
      · have fx1 : ((x : Int) == 65535) = false := by simp; omega
        have fx2 : ((c1 : Int) == 65535) = false := by simp; omega
        have fx3 : decide ((65535 : Int) ≤ (x : Int) + (c1 : Int)) = false := by simp; omega
        have fx4 : ((x : Int) + (c1 : Int) == 65535) = false := by simp; omega
        have fy1 : ((y : Int) == 65535) = false := by simp; omega
        have fy2 : ((c2 : Int) == 65535) = false := by simp; omega
        have fy3 : decide ((65535 : Int) ≤ (y : Int) + (c2 : Int)) = true := by simp; omega
        have f19 : decide ((65535 : Int) < (x : Int) + (c1 : Int)) = false := by simp; omega
        go_upto_region 22 with (fail)
        have HWR : Hid (IntKind.u16.wrap ((x : Int) + (c1 : Int)) = (x : Int) + (c1 : Int)) := Lib.hid (by rw [IntKind.wrap_u16]; omega)
        refine wp_region_noPanic ?_
        refine wp_region_held_drew (S := fun y9 : World => Below wx.heap.size wx y9) (by kernel_rfl) ((Below.refl _ _).drew) (fun hHeld => ?_)
        generalize wx.drew = wd at *
        refine wpAnyH_take (i := 0) (oi := { dst := some 95, op := Op.move (Operand.tmp 15), type := 4, pos := "law.go:70", after := #[], guard := none }) (v := .bool true) rfl (by kernel_rfl) (by kernel_rfl) (by kernel_rfl) (fun _ _ _ h => h) (Or.inl ⟨by rfl, fun w hSw => by go_simp⟩) (by assumption) ?_
        try simp only [Act.put, List.setIfInBounds_toArray, List.set_cons_zero, List.set_cons_succ]
        refine wpAnyH_take (i := 1) (oi := { dst := some 96, op := Op.move (Operand.tmp 95), type := 4, pos := "law.go:70", after := #[{ on := 0, ground := Ground.data }], guard := none }) (v := .bool true) rfl (by kernel_rfl) (by kernel_rfl) (by kernel_rfl) (fun _ _ _ h => h) (Or.inl ⟨by rfl, fun w hSw => by go_simp⟩) (by assumption) ?_
        try simp only [Act.put, List.setIfInBounds_toArray, List.set_cons_zero, List.set_cons_succ]
        refine wpAnyH_take (i := 2) (oi := { dst := some 97, op := Op.load 40 (Operand.tmp 14), type := 40, pos := "law.go:70", after := #[{ on := 1, ground := Ground.guard }], guard := some (1, true) }) (v := .agg #[.int .u32 (pa : Int), .int .u8 (pn : Int), .int .i64 1, .int .u16 ((x : Int) + (c1 : Int)), .int .u16 (s : Int)]) rfl (by kernel_rfl) (by kernel_rfl) (by kernel_rfl) (fun _ _ _ h => h) (Or.inl ⟨by rfl, fun w hSw => by obtain ⟨k0, k1, k2, k3, k4, -⟩ := row5' (brow hSw HBX.out.1); go_simp⟩) (by assumption) ?_
        try simp only [Act.put, List.setIfInBounds_toArray, List.set_cons_zero, List.set_cons_succ]
        refine wpAnyH_take (i := 3) (oi := { dst := some 98, op := Op.move (Operand.tmp 4), type := 5, pos := "law.go:70", after := #[{ on := 1, ground := Ground.guard }], guard := some (1, true) }) (v := .int .u8 (p : Int)) rfl (by kernel_rfl) (by kernel_rfl) (by kernel_rfl) (fun _ _ _ h => h) (Or.inl ⟨by rfl, fun w hSw => by go_simp⟩) (by assumption) ?_
        try simp only [Act.put, List.setIfInBounds_toArray, List.set_cons_zero, List.set_cons_succ]
        refine wpAnyH_take (i := 5) (oi := { dst := some 100, op := Op.move (Operand.tmp 20), type := 3, pos := "law.go:70", after := #[{ on := 1, ground := Ground.guard }], guard := some (1, true) }) (v := .int .i64 1) rfl (by kernel_rfl) (by kernel_rfl) (by kernel_rfl) (fun _ _ _ h => h) (Or.inl ⟨by rfl, fun w hSw => by go_simp⟩) (by assumption) ?_
        try simp only [Act.put, List.setIfInBounds_toArray, List.set_cons_zero, List.set_cons_succ]
        refine wpAnyH_take (i := 6) (oi := { dst := some 101, op := Op.move (Operand.tmp 18), type := 3, pos := "law.go:70", after := #[{ on := 1, ground := Ground.guard }], guard := some (1, true) }) (v := .int .i64 ((x : Int) + (c1 : Int))) rfl (by kernel_rfl) (by kernel_rfl) (by kernel_rfl) (fun _ _ _ h => h) (Or.inl ⟨by rfl, fun w hSw => by go_simp⟩) (by assumption) ?_
        try simp only [Act.put, List.setIfInBounds_toArray, List.set_cons_zero, List.set_cons_succ]
        refine wpAnyH_take (i := 7) (oi := { dst := some 102, op := Op.convert 3 22 (Operand.tmp 101), type := 22, pos := "law.go:70", after := #[{ on := 6, ground := Ground.data }, { on := 1, ground := Ground.guard }], guard := some (1, true) }) (v := .int .u16 ((x : Int) + (c1 : Int))) rfl (by kernel_rfl) (by kernel_rfl) (by kernel_rfl) (fun _ _ _ h => h) (Or.inl ⟨by rfl, fun w hSw => by have hwr := HWR.out; go_simp⟩) (by assumption) ?_
        try simp only [Act.put, List.setIfInBounds_toArray, List.set_cons_zero, List.set_cons_succ]
        refine wpAnyH_take (i := 8) (oi := { dst := some 103, op := Op.move (Operand.tmp 5), type := 22, pos := "law.go:70", after := #[{ on := 1, ground := Ground.guard }], guard := some (1, true) }) (v := .int .u16 (s : Int)) rfl (by kernel_rfl) (by kernel_rfl) (by kernel_rfl) (fun _ _ _ h => h) (Or.inl ⟨by rfl, fun w hSw => by go_simp⟩) (by assumption) ?_
        try simp only [Act.put, List.setIfInBounds_toArray, List.set_cons_zero, List.set_cons_succ]
        refine wpAnyH_ready (rs := [4]) (by kernel_rfl) (by simp) ?_
        refine (AllReadyH.cons (o := { dst := some 99, op := Op.call { callee := Callee.value (Operand.func 19), args := #[Operand.tmp 98], argTypes := #[5] }, type := 30, pos := "law.go:70", after := #[{ on := 3, ground := Ground.data }, { on := 1, ground := Ground.chain }, { on := 1, ground := Ground.guard }], guard := some (1, true) }) rfl (fun K hK => ?_) AllReadyH.nil)
        go_simp
        with_reducible refine (CP.out _).mono ?_
        rintro en wd2 ⟨rfl, B3⟩
        refine hK.out _ _ (hHeld.trans (B3.mono hHeld.size)) (fun hHeld2 => ?_)
        clear hK K hHeld
        have hHeld := hHeld2
        clear hHeld2
        try simp only [Act.put, List.setIfInBounds_toArray, List.set_cons_zero, List.set_cons_succ]
        clear B3
        generalize wd2 = wd at *
        refine wpAnyH_take (i := 9) (oi := { dst := some 104, op := Op.build 40 #[(0, Operand.tmp 99), (1, Operand.tmp 100), (2, Operand.tmp 102), (3, Operand.tmp 103)], type := 40, pos := "law.go:70", after := #[{ on := 4, ground := Ground.data }, { on := 5, ground := Ground.data }, { on := 7, ground := Ground.data }, { on := 8, ground := Ground.data }, { on := 1, ground := Ground.guard }], guard := some (1, true) }) (v := .agg #[.int .u32 (pa : Int), .int .u8 (pn : Int), .int .i64 1, .int .u16 ((x : Int) + (c1 : Int)), .int .u16 (s : Int)]) rfl (by kernel_rfl) (by kernel_rfl) (by kernel_rfl) (fun _ _ _ h => h) (Or.inl ⟨by rfl, fun w hSw => by go_simp⟩) (by assumption) ?_
        try simp only [Act.put, List.setIfInBounds_toArray, List.set_cons_zero, List.set_cons_succ]
        refine wpAnyH_take (i := 10) (oi := { dst := some 105, op := Op.binOp BinOp.eql 40 (Operand.tmp 97) (Operand.tmp 104) 40, type := 4, pos := "law.go:70", after := #[{ on := 2, ground := Ground.data }, { on := 9, ground := Ground.data }, { on := 1, ground := Ground.guard }], guard := some (1, true) }) (v := .bool true) rfl (by kernel_rfl) (by kernel_rfl) (by kernel_rfl) (fun _ _ _ h => h) (Or.inl ⟨by rfl, fun w hSw => by go_simp⟩) (by assumption) ?_
        try simp only [Act.put, List.setIfInBounds_toArray, List.set_cons_zero, List.set_cons_succ]
        refine wpAnyH_take (i := 11) (oi := { dst := some 106, op := Op.pick (Operand.tmp 96) (Operand.tmp 105) (Operand.const (Value.bool false)), type := 4, pos := "law.go:70", after := #[{ on := 1, ground := Ground.data }, { on := 10, ground := Ground.data }], guard := none }) (v := .bool true) rfl (by kernel_rfl) (by kernel_rfl) (by kernel_rfl) (fun _ _ _ h => h) (Or.inl ⟨by rfl, fun w hSw => by go_simp⟩) (by assumption) ?_
        try simp only [Act.put, List.setIfInBounds_toArray, List.set_cons_zero, List.set_cons_succ]
        refine wpAnyH_take (i := 12) (oi := { dst := some 12, op := Op.assign (Operand.tmp 106), type := 4, pos := "law.go:70", after := #[{ on := 11, ground := Ground.data }, { on := 4, ground := Ground.chain }, { on := 0, ground := Ground.phase }, { on := 1, ground := Ground.phase }, { on := 2, ground := Ground.phase }, { on := 3, ground := Ground.phase }, { on := 4, ground := Ground.phase }, { on := 5, ground := Ground.phase }, { on := 6, ground := Ground.phase }, { on := 7, ground := Ground.phase }, { on := 8, ground := Ground.phase }, { on := 9, ground := Ground.phase }, { on := 10, ground := Ground.phase }, { on := 11, ground := Ground.phase }], guard := none }) (v := .bool true) rfl (by kernel_rfl) (by kernel_rfl) (by kernel_rfl) (fun _ _ _ h => h) (Or.inl ⟨by rfl, fun w hSw => by go_simp⟩) (by assumption) ?_
        try simp only [Act.put, List.setIfInBounds_toArray, List.set_cons_zero, List.set_cons_succ]
        refine wpAnyH_done (by kernel_rfl) ?_ _
        try unfold NoPanic
        have HD := Lib.hid hHeld
        clear hHeld
        go_wp2
        go_ret
        exact ⟨rfl, HBX.out.2.trans (HD.out.mono HBX.out.2.size)⟩
  · rw [show (if x + c1 < 65535 then (if y + c2 < x + c1 then (some ⟨pa, pn, 2, y + c2, s⟩ : Option Ro) else some ⟨pa, pn, 1, x + c1, s⟩) else (if y + c2 < 65535 then some ⟨pa, pn, 2, y + c2, s⟩ else none)) = some ⟨pa, pn, 2, y + c2, s⟩ by
      by_cases h9 : x + c1 < 65535
      · rw [if_pos h9, if_pos (hcs.2 h9)]
      · rw [if_neg h9, if_pos hcs.1]] at HK
    have HRU : Hid (∀ W, LW w1 W q e7 [] → Calls Tryz.prog 18 #[.pointer (some ⟨q, 0, none⟩), .agg #[.int .u32 (pa : Int), .int .u8 (pn : Int)]] W fun en w' => en = .returned (.tuple #[.agg #[.int .u32 (pa : Int), .int .u8 (pn : Int), .int .i64 2, .int .u16 ((y + c2 : Nat) : Int), .int .u16 (s : Int)], .bool true]) ∧ LW w1 w' q e7 []) := Lib.hid fun W h => by
      have h9 := HRT.out W h
      rw [HK.out] at h9
      exact h9
    clear HRT HK
    go_upto_region 8 with (first
      | (go_at_call 19; (with_reducible refine (CP.out _).mono ?_); rintro en w8 ⟨rfl, hB⟩; have HL8 := Lib.hid (HL7.out.step hB); clear hB)
      | (go_at_call 18; (with_reducible refine (HRU.out _ HL8.out).mono ?_); rintro en w9 ⟨rfl, hL⟩; have HB9 := Lib.hid (H1.out.trans (hL.b.mono H1.out.size)); clear hL HRU))
    have HBX := Lib.hid (And.intro (heap_alloc_new w9 (.cells #[.int .u32 (pa : Int), .int .u8 (pn : Int), .int .i64 2, .int .u16 ((y : Int) + (c2 : Int)), .int .u16 (s : Int)] 40)) (HB9.out.alloc HB9.out.size (.cells #[.int .u32 (pa : Int), .int .u8 (pn : Int), .int .i64 2, .int .u16 ((y : Int) + (c2 : Int)), .int .u16 (s : Int)] 40)))
    generalize World.alloc w9 _ = wx at *
    generalize w9.heap.size = bx at *
    go_upto_region 12 with (first
      | (go_at_call 20; (with_reducible refine (CA.out _).mono ?_); rintro en wk ⟨rfl, rfl⟩)
      | (go_at_call 20; (with_reducible refine (CB.out _).mono ?_); rintro en wk ⟨rfl, rfl⟩))
    by_cases hD : x + c1 < 65535
    · have h4 := hcs.2 hD
      have fx1 : ((x : Int) == 65535) = false := by simp; omega
      have fx2 : ((c1 : Int) == 65535) = false := by simp; omega
      have fx3 : decide ((65535 : Int) ≤ (x : Int) + (c1 : Int)) = false := by simp; omega
      have fx4 : ((x : Int) + (c1 : Int) == 65535) = false := by simp; omega
      have fy1 : ((y : Int) == 65535) = false := by simp; omega
      have fy2 : ((c2 : Int) == 65535) = false := by simp; omega
      have fy3 : decide ((65535 : Int) ≤ (y : Int) + (c2 : Int)) = false := by simp; omega
      have fy4 : ((y : Int) + (c2 : Int) == 65535) = false := by simp; omega
      have f19 : decide ((y : Int) + (c2 : Int) < (x : Int) + (c1 : Int)) = true := by simp; omega
      go_upto_region 22 with (fail)
      have HWR : Hid (IntKind.u16.wrap ((y : Int) + (c2 : Int)) = (y : Int) + (c2 : Int)) := Lib.hid (by rw [IntKind.wrap_u16]; omega)
      refine wp_region_noPanic ?_
      refine wp_region_held_drew (S := fun y9 : World => Below wx.heap.size wx y9) (by kernel_rfl) ((Below.refl _ _).drew) (fun hHeld => ?_)
      generalize wx.drew = wd at *
      refine wpAnyH_take (i := 0) (oi := { dst := some 95, op := Op.move (Operand.tmp 15), type := 4, pos := "law.go:70", after := #[], guard := none }) (v := .bool true) rfl (by kernel_rfl) (by kernel_rfl) (by kernel_rfl) (fun _ _ _ h => h) (Or.inl ⟨by rfl, fun w hSw => by go_simp⟩) (by assumption) ?_
      try simp only [Act.put, List.setIfInBounds_toArray, List.set_cons_zero, List.set_cons_succ]
      refine wpAnyH_take (i := 1) (oi := { dst := some 96, op := Op.move (Operand.tmp 95), type := 4, pos := "law.go:70", after := #[{ on := 0, ground := Ground.data }], guard := none }) (v := .bool true) rfl (by kernel_rfl) (by kernel_rfl) (by kernel_rfl) (fun _ _ _ h => h) (Or.inl ⟨by rfl, fun w hSw => by go_simp⟩) (by assumption) ?_
      try simp only [Act.put, List.setIfInBounds_toArray, List.set_cons_zero, List.set_cons_succ]
      refine wpAnyH_take (i := 2) (oi := { dst := some 97, op := Op.load 40 (Operand.tmp 14), type := 40, pos := "law.go:70", after := #[{ on := 1, ground := Ground.guard }], guard := some (1, true) }) (v := .agg #[.int .u32 (pa : Int), .int .u8 (pn : Int), .int .i64 2, .int .u16 ((y : Int) + (c2 : Int)), .int .u16 (s : Int)]) rfl (by kernel_rfl) (by kernel_rfl) (by kernel_rfl) (fun _ _ _ h => h) (Or.inl ⟨by rfl, fun w hSw => by obtain ⟨k0, k1, k2, k3, k4, -⟩ := row5' (brow hSw HBX.out.1); go_simp⟩) (by assumption) ?_
      try simp only [Act.put, List.setIfInBounds_toArray, List.set_cons_zero, List.set_cons_succ]
      refine wpAnyH_take (i := 3) (oi := { dst := some 98, op := Op.move (Operand.tmp 4), type := 5, pos := "law.go:70", after := #[{ on := 1, ground := Ground.guard }], guard := some (1, true) }) (v := .int .u8 (p : Int)) rfl (by kernel_rfl) (by kernel_rfl) (by kernel_rfl) (fun _ _ _ h => h) (Or.inl ⟨by rfl, fun w hSw => by go_simp⟩) (by assumption) ?_
      try simp only [Act.put, List.setIfInBounds_toArray, List.set_cons_zero, List.set_cons_succ]
      refine wpAnyH_take (i := 5) (oi := { dst := some 100, op := Op.move (Operand.tmp 20), type := 3, pos := "law.go:70", after := #[{ on := 1, ground := Ground.guard }], guard := some (1, true) }) (v := .int .i64 2) rfl (by kernel_rfl) (by kernel_rfl) (by kernel_rfl) (fun _ _ _ h => h) (Or.inl ⟨by rfl, fun w hSw => by go_simp⟩) (by assumption) ?_
      try simp only [Act.put, List.setIfInBounds_toArray, List.set_cons_zero, List.set_cons_succ]
      refine wpAnyH_take (i := 6) (oi := { dst := some 101, op := Op.move (Operand.tmp 18), type := 3, pos := "law.go:70", after := #[{ on := 1, ground := Ground.guard }], guard := some (1, true) }) (v := .int .i64 ((y : Int) + (c2 : Int))) rfl (by kernel_rfl) (by kernel_rfl) (by kernel_rfl) (fun _ _ _ h => h) (Or.inl ⟨by rfl, fun w hSw => by go_simp⟩) (by assumption) ?_
      try simp only [Act.put, List.setIfInBounds_toArray, List.set_cons_zero, List.set_cons_succ]
      refine wpAnyH_take (i := 7) (oi := { dst := some 102, op := Op.convert 3 22 (Operand.tmp 101), type := 22, pos := "law.go:70", after := #[{ on := 6, ground := Ground.data }, { on := 1, ground := Ground.guard }], guard := some (1, true) }) (v := .int .u16 ((y : Int) + (c2 : Int))) rfl (by kernel_rfl) (by kernel_rfl) (by kernel_rfl) (fun _ _ _ h => h) (Or.inl ⟨by rfl, fun w hSw => by have hwr := HWR.out; go_simp⟩) (by assumption) ?_
      try simp only [Act.put, List.setIfInBounds_toArray, List.set_cons_zero, List.set_cons_succ]
      refine wpAnyH_take (i := 8) (oi := { dst := some 103, op := Op.move (Operand.tmp 5), type := 22, pos := "law.go:70", after := #[{ on := 1, ground := Ground.guard }], guard := some (1, true) }) (v := .int .u16 (s : Int)) rfl (by kernel_rfl) (by kernel_rfl) (by kernel_rfl) (fun _ _ _ h => h) (Or.inl ⟨by rfl, fun w hSw => by go_simp⟩) (by assumption) ?_
      try simp only [Act.put, List.setIfInBounds_toArray, List.set_cons_zero, List.set_cons_succ]
      refine wpAnyH_ready (rs := [4]) (by kernel_rfl) (by simp) ?_
      refine (AllReadyH.cons (o := { dst := some 99, op := Op.call { callee := Callee.value (Operand.func 19), args := #[Operand.tmp 98], argTypes := #[5] }, type := 30, pos := "law.go:70", after := #[{ on := 3, ground := Ground.data }, { on := 1, ground := Ground.chain }, { on := 1, ground := Ground.guard }], guard := some (1, true) }) rfl (fun K hK => ?_) AllReadyH.nil)
      go_simp
      with_reducible refine (CP.out _).mono ?_
      rintro en wd2 ⟨rfl, B3⟩
      refine hK.out _ _ (hHeld.trans (B3.mono hHeld.size)) (fun hHeld2 => ?_)
      clear hK K hHeld
      have hHeld := hHeld2
      clear hHeld2
      try simp only [Act.put, List.setIfInBounds_toArray, List.set_cons_zero, List.set_cons_succ]
      clear B3
      generalize wd2 = wd at *
      refine wpAnyH_take (i := 9) (oi := { dst := some 104, op := Op.build 40 #[(0, Operand.tmp 99), (1, Operand.tmp 100), (2, Operand.tmp 102), (3, Operand.tmp 103)], type := 40, pos := "law.go:70", after := #[{ on := 4, ground := Ground.data }, { on := 5, ground := Ground.data }, { on := 7, ground := Ground.data }, { on := 8, ground := Ground.data }, { on := 1, ground := Ground.guard }], guard := some (1, true) }) (v := .agg #[.int .u32 (pa : Int), .int .u8 (pn : Int), .int .i64 2, .int .u16 ((y : Int) + (c2 : Int)), .int .u16 (s : Int)]) rfl (by kernel_rfl) (by kernel_rfl) (by kernel_rfl) (fun _ _ _ h => h) (Or.inl ⟨by rfl, fun w hSw => by go_simp⟩) (by assumption) ?_
      try simp only [Act.put, List.setIfInBounds_toArray, List.set_cons_zero, List.set_cons_succ]
      refine wpAnyH_take (i := 10) (oi := { dst := some 105, op := Op.binOp BinOp.eql 40 (Operand.tmp 97) (Operand.tmp 104) 40, type := 4, pos := "law.go:70", after := #[{ on := 2, ground := Ground.data }, { on := 9, ground := Ground.data }, { on := 1, ground := Ground.guard }], guard := some (1, true) }) (v := .bool true) rfl (by kernel_rfl) (by kernel_rfl) (by kernel_rfl) (fun _ _ _ h => h) (Or.inl ⟨by rfl, fun w hSw => by go_simp⟩) (by assumption) ?_
      try simp only [Act.put, List.setIfInBounds_toArray, List.set_cons_zero, List.set_cons_succ]
      refine wpAnyH_take (i := 11) (oi := { dst := some 106, op := Op.pick (Operand.tmp 96) (Operand.tmp 105) (Operand.const (Value.bool false)), type := 4, pos := "law.go:70", after := #[{ on := 1, ground := Ground.data }, { on := 10, ground := Ground.data }], guard := none }) (v := .bool true) rfl (by kernel_rfl) (by kernel_rfl) (by kernel_rfl) (fun _ _ _ h => h) (Or.inl ⟨by rfl, fun w hSw => by go_simp⟩) (by assumption) ?_
      try simp only [Act.put, List.setIfInBounds_toArray, List.set_cons_zero, List.set_cons_succ]
      refine wpAnyH_take (i := 12) (oi := { dst := some 12, op := Op.assign (Operand.tmp 106), type := 4, pos := "law.go:70", after := #[{ on := 11, ground := Ground.data }, { on := 4, ground := Ground.chain }, { on := 0, ground := Ground.phase }, { on := 1, ground := Ground.phase }, { on := 2, ground := Ground.phase }, { on := 3, ground := Ground.phase }, { on := 4, ground := Ground.phase }, { on := 5, ground := Ground.phase }, { on := 6, ground := Ground.phase }, { on := 7, ground := Ground.phase }, { on := 8, ground := Ground.phase }, { on := 9, ground := Ground.phase }, { on := 10, ground := Ground.phase }, { on := 11, ground := Ground.phase }], guard := none }) (v := .bool true) rfl (by kernel_rfl) (by kernel_rfl) (by kernel_rfl) (fun _ _ _ h => h) (Or.inl ⟨by rfl, fun w hSw => by go_simp⟩) (by assumption) ?_
      try simp only [Act.put, List.setIfInBounds_toArray, List.set_cons_zero, List.set_cons_succ]
      refine wpAnyH_done (by kernel_rfl) ?_ _
      try unfold NoPanic
      have HD := Lib.hid hHeld
      clear hHeld
      go_wp2
      go_ret
      exact ⟨rfl, HBX.out.2.trans (HD.out.mono HBX.out.2.size)⟩
    · have h3 : x = 65535 ∨ (x ≠ 65535 ∧ c1 = 65535) ∨ (x ≠ 65535 ∧ c1 ≠ 65535 ∧ 65535 ≤ x + c1) := by omega
      rcases h3 with h3 | h3 | h3
      · have fx1 : ((x : Int) == 65535) = true := by simp; omega
        have fy1 : ((y : Int) == 65535) = false := by simp; omega
        have fy2 : ((c2 : Int) == 65535) = false := by simp; omega
        have fy3 : decide ((65535 : Int) ≤ (y : Int) + (c2 : Int)) = false := by simp; omega
        have fy4 : ((y : Int) + (c2 : Int) == 65535) = false := by simp; omega
        have f19 : decide ((y : Int) + (c2 : Int) < (65535 : Int)) = true := by simp; omega
        go_upto_region 22 with (fail)
        have HWR : Hid (IntKind.u16.wrap ((y : Int) + (c2 : Int)) = (y : Int) + (c2 : Int)) := Lib.hid (by rw [IntKind.wrap_u16]; omega)
        refine wp_region_noPanic ?_
        refine wp_region_held_drew (S := fun y9 : World => Below wx.heap.size wx y9) (by kernel_rfl) ((Below.refl _ _).drew) (fun hHeld => ?_)
        generalize wx.drew = wd at *
        refine wpAnyH_take (i := 0) (oi := { dst := some 95, op := Op.move (Operand.tmp 15), type := 4, pos := "law.go:70", after := #[], guard := none }) (v := .bool true) rfl (by kernel_rfl) (by kernel_rfl) (by kernel_rfl) (fun _ _ _ h => h) (Or.inl ⟨by rfl, fun w hSw => by go_simp⟩) (by assumption) ?_
        try simp only [Act.put, List.setIfInBounds_toArray, List.set_cons_zero, List.set_cons_succ]
        refine wpAnyH_take (i := 1) (oi := { dst := some 96, op := Op.move (Operand.tmp 95), type := 4, pos := "law.go:70", after := #[{ on := 0, ground := Ground.data }], guard := none }) (v := .bool true) rfl (by kernel_rfl) (by kernel_rfl) (by kernel_rfl) (fun _ _ _ h => h) (Or.inl ⟨by rfl, fun w hSw => by go_simp⟩) (by assumption) ?_
        try simp only [Act.put, List.setIfInBounds_toArray, List.set_cons_zero, List.set_cons_succ]
        refine wpAnyH_take (i := 2) (oi := { dst := some 97, op := Op.load 40 (Operand.tmp 14), type := 40, pos := "law.go:70", after := #[{ on := 1, ground := Ground.guard }], guard := some (1, true) }) (v := .agg #[.int .u32 (pa : Int), .int .u8 (pn : Int), .int .i64 2, .int .u16 ((y : Int) + (c2 : Int)), .int .u16 (s : Int)]) rfl (by kernel_rfl) (by kernel_rfl) (by kernel_rfl) (fun _ _ _ h => h) (Or.inl ⟨by rfl, fun w hSw => by obtain ⟨k0, k1, k2, k3, k4, -⟩ := row5' (brow hSw HBX.out.1); go_simp⟩) (by assumption) ?_
        try simp only [Act.put, List.setIfInBounds_toArray, List.set_cons_zero, List.set_cons_succ]
        refine wpAnyH_take (i := 3) (oi := { dst := some 98, op := Op.move (Operand.tmp 4), type := 5, pos := "law.go:70", after := #[{ on := 1, ground := Ground.guard }], guard := some (1, true) }) (v := .int .u8 (p : Int)) rfl (by kernel_rfl) (by kernel_rfl) (by kernel_rfl) (fun _ _ _ h => h) (Or.inl ⟨by rfl, fun w hSw => by go_simp⟩) (by assumption) ?_
        try simp only [Act.put, List.setIfInBounds_toArray, List.set_cons_zero, List.set_cons_succ]
        refine wpAnyH_take (i := 5) (oi := { dst := some 100, op := Op.move (Operand.tmp 20), type := 3, pos := "law.go:70", after := #[{ on := 1, ground := Ground.guard }], guard := some (1, true) }) (v := .int .i64 2) rfl (by kernel_rfl) (by kernel_rfl) (by kernel_rfl) (fun _ _ _ h => h) (Or.inl ⟨by rfl, fun w hSw => by go_simp⟩) (by assumption) ?_
        try simp only [Act.put, List.setIfInBounds_toArray, List.set_cons_zero, List.set_cons_succ]
        refine wpAnyH_take (i := 6) (oi := { dst := some 101, op := Op.move (Operand.tmp 18), type := 3, pos := "law.go:70", after := #[{ on := 1, ground := Ground.guard }], guard := some (1, true) }) (v := .int .i64 ((y : Int) + (c2 : Int))) rfl (by kernel_rfl) (by kernel_rfl) (by kernel_rfl) (fun _ _ _ h => h) (Or.inl ⟨by rfl, fun w hSw => by go_simp⟩) (by assumption) ?_
        try simp only [Act.put, List.setIfInBounds_toArray, List.set_cons_zero, List.set_cons_succ]
        refine wpAnyH_take (i := 7) (oi := { dst := some 102, op := Op.convert 3 22 (Operand.tmp 101), type := 22, pos := "law.go:70", after := #[{ on := 6, ground := Ground.data }, { on := 1, ground := Ground.guard }], guard := some (1, true) }) (v := .int .u16 ((y : Int) + (c2 : Int))) rfl (by kernel_rfl) (by kernel_rfl) (by kernel_rfl) (fun _ _ _ h => h) (Or.inl ⟨by rfl, fun w hSw => by have hwr := HWR.out; go_simp⟩) (by assumption) ?_
        try simp only [Act.put, List.setIfInBounds_toArray, List.set_cons_zero, List.set_cons_succ]
        refine wpAnyH_take (i := 8) (oi := { dst := some 103, op := Op.move (Operand.tmp 5), type := 22, pos := "law.go:70", after := #[{ on := 1, ground := Ground.guard }], guard := some (1, true) }) (v := .int .u16 (s : Int)) rfl (by kernel_rfl) (by kernel_rfl) (by kernel_rfl) (fun _ _ _ h => h) (Or.inl ⟨by rfl, fun w hSw => by go_simp⟩) (by assumption) ?_
        try simp only [Act.put, List.setIfInBounds_toArray, List.set_cons_zero, List.set_cons_succ]
        refine wpAnyH_ready (rs := [4]) (by kernel_rfl) (by simp) ?_
        refine (AllReadyH.cons (o := { dst := some 99, op := Op.call { callee := Callee.value (Operand.func 19), args := #[Operand.tmp 98], argTypes := #[5] }, type := 30, pos := "law.go:70", after := #[{ on := 3, ground := Ground.data }, { on := 1, ground := Ground.chain }, { on := 1, ground := Ground.guard }], guard := some (1, true) }) rfl (fun K hK => ?_) AllReadyH.nil)
        go_simp
        with_reducible refine (CP.out _).mono ?_
        rintro en wd2 ⟨rfl, B3⟩
        refine hK.out _ _ (hHeld.trans (B3.mono hHeld.size)) (fun hHeld2 => ?_)
        clear hK K hHeld
        have hHeld := hHeld2
        clear hHeld2
        try simp only [Act.put, List.setIfInBounds_toArray, List.set_cons_zero, List.set_cons_succ]
        clear B3
        generalize wd2 = wd at *
        refine wpAnyH_take (i := 9) (oi := { dst := some 104, op := Op.build 40 #[(0, Operand.tmp 99), (1, Operand.tmp 100), (2, Operand.tmp 102), (3, Operand.tmp 103)], type := 40, pos := "law.go:70", after := #[{ on := 4, ground := Ground.data }, { on := 5, ground := Ground.data }, { on := 7, ground := Ground.data }, { on := 8, ground := Ground.data }, { on := 1, ground := Ground.guard }], guard := some (1, true) }) (v := .agg #[.int .u32 (pa : Int), .int .u8 (pn : Int), .int .i64 2, .int .u16 ((y : Int) + (c2 : Int)), .int .u16 (s : Int)]) rfl (by kernel_rfl) (by kernel_rfl) (by kernel_rfl) (fun _ _ _ h => h) (Or.inl ⟨by rfl, fun w hSw => by go_simp⟩) (by assumption) ?_
        try simp only [Act.put, List.setIfInBounds_toArray, List.set_cons_zero, List.set_cons_succ]
        refine wpAnyH_take (i := 10) (oi := { dst := some 105, op := Op.binOp BinOp.eql 40 (Operand.tmp 97) (Operand.tmp 104) 40, type := 4, pos := "law.go:70", after := #[{ on := 2, ground := Ground.data }, { on := 9, ground := Ground.data }, { on := 1, ground := Ground.guard }], guard := some (1, true) }) (v := .bool true) rfl (by kernel_rfl) (by kernel_rfl) (by kernel_rfl) (fun _ _ _ h => h) (Or.inl ⟨by rfl, fun w hSw => by go_simp⟩) (by assumption) ?_
        try simp only [Act.put, List.setIfInBounds_toArray, List.set_cons_zero, List.set_cons_succ]
        refine wpAnyH_take (i := 11) (oi := { dst := some 106, op := Op.pick (Operand.tmp 96) (Operand.tmp 105) (Operand.const (Value.bool false)), type := 4, pos := "law.go:70", after := #[{ on := 1, ground := Ground.data }, { on := 10, ground := Ground.data }], guard := none }) (v := .bool true) rfl (by kernel_rfl) (by kernel_rfl) (by kernel_rfl) (fun _ _ _ h => h) (Or.inl ⟨by rfl, fun w hSw => by go_simp⟩) (by assumption) ?_
        try simp only [Act.put, List.setIfInBounds_toArray, List.set_cons_zero, List.set_cons_succ]
        refine wpAnyH_take (i := 12) (oi := { dst := some 12, op := Op.assign (Operand.tmp 106), type := 4, pos := "law.go:70", after := #[{ on := 11, ground := Ground.data }, { on := 4, ground := Ground.chain }, { on := 0, ground := Ground.phase }, { on := 1, ground := Ground.phase }, { on := 2, ground := Ground.phase }, { on := 3, ground := Ground.phase }, { on := 4, ground := Ground.phase }, { on := 5, ground := Ground.phase }, { on := 6, ground := Ground.phase }, { on := 7, ground := Ground.phase }, { on := 8, ground := Ground.phase }, { on := 9, ground := Ground.phase }, { on := 10, ground := Ground.phase }, { on := 11, ground := Ground.phase }], guard := none }) (v := .bool true) rfl (by kernel_rfl) (by kernel_rfl) (by kernel_rfl) (fun _ _ _ h => h) (Or.inl ⟨by rfl, fun w hSw => by go_simp⟩) (by assumption) ?_
        try simp only [Act.put, List.setIfInBounds_toArray, List.set_cons_zero, List.set_cons_succ]
        refine wpAnyH_done (by kernel_rfl) ?_ _
        try unfold NoPanic
        have HD := Lib.hid hHeld
        clear hHeld
        go_wp2
        go_ret
        exact ⟨rfl, HBX.out.2.trans (HD.out.mono HBX.out.2.size)⟩
      · have fx1 : ((x : Int) == 65535) = false := by simp; omega
        have fx2 : ((c1 : Int) == 65535) = true := by simp; omega
        have fy1 : ((y : Int) == 65535) = false := by simp; omega
        have fy2 : ((c2 : Int) == 65535) = false := by simp; omega
        have fy3 : decide ((65535 : Int) ≤ (y : Int) + (c2 : Int)) = false := by simp; omega
        have fy4 : ((y : Int) + (c2 : Int) == 65535) = false := by simp; omega
        have f19 : decide ((y : Int) + (c2 : Int) < (65535 : Int)) = true := by simp; omega
        go_upto_region 22 with (fail)
        have HWR : Hid (IntKind.u16.wrap ((y : Int) + (c2 : Int)) = (y : Int) + (c2 : Int)) := Lib.hid (by rw [IntKind.wrap_u16]; omega)
        refine wp_region_noPanic ?_
        refine wp_region_held_drew (S := fun y9 : World => Below wx.heap.size wx y9) (by kernel_rfl) ((Below.refl _ _).drew) (fun hHeld => ?_)
        generalize wx.drew = wd at *
        refine wpAnyH_take (i := 0) (oi := { dst := some 95, op := Op.move (Operand.tmp 15), type := 4, pos := "law.go:70", after := #[], guard := none }) (v := .bool true) rfl (by kernel_rfl) (by kernel_rfl) (by kernel_rfl) (fun _ _ _ h => h) (Or.inl ⟨by rfl, fun w hSw => by go_simp⟩) (by assumption) ?_
        try simp only [Act.put, List.setIfInBounds_toArray, List.set_cons_zero, List.set_cons_succ]
        refine wpAnyH_take (i := 1) (oi := { dst := some 96, op := Op.move (Operand.tmp 95), type := 4, pos := "law.go:70", after := #[{ on := 0, ground := Ground.data }], guard := none }) (v := .bool true) rfl (by kernel_rfl) (by kernel_rfl) (by kernel_rfl) (fun _ _ _ h => h) (Or.inl ⟨by rfl, fun w hSw => by go_simp⟩) (by assumption) ?_
        try simp only [Act.put, List.setIfInBounds_toArray, List.set_cons_zero, List.set_cons_succ]
        refine wpAnyH_take (i := 2) (oi := { dst := some 97, op := Op.load 40 (Operand.tmp 14), type := 40, pos := "law.go:70", after := #[{ on := 1, ground := Ground.guard }], guard := some (1, true) }) (v := .agg #[.int .u32 (pa : Int), .int .u8 (pn : Int), .int .i64 2, .int .u16 ((y : Int) + (c2 : Int)), .int .u16 (s : Int)]) rfl (by kernel_rfl) (by kernel_rfl) (by kernel_rfl) (fun _ _ _ h => h) (Or.inl ⟨by rfl, fun w hSw => by obtain ⟨k0, k1, k2, k3, k4, -⟩ := row5' (brow hSw HBX.out.1); go_simp⟩) (by assumption) ?_
        try simp only [Act.put, List.setIfInBounds_toArray, List.set_cons_zero, List.set_cons_succ]
        refine wpAnyH_take (i := 3) (oi := { dst := some 98, op := Op.move (Operand.tmp 4), type := 5, pos := "law.go:70", after := #[{ on := 1, ground := Ground.guard }], guard := some (1, true) }) (v := .int .u8 (p : Int)) rfl (by kernel_rfl) (by kernel_rfl) (by kernel_rfl) (fun _ _ _ h => h) (Or.inl ⟨by rfl, fun w hSw => by go_simp⟩) (by assumption) ?_
        try simp only [Act.put, List.setIfInBounds_toArray, List.set_cons_zero, List.set_cons_succ]
        refine wpAnyH_take (i := 5) (oi := { dst := some 100, op := Op.move (Operand.tmp 20), type := 3, pos := "law.go:70", after := #[{ on := 1, ground := Ground.guard }], guard := some (1, true) }) (v := .int .i64 2) rfl (by kernel_rfl) (by kernel_rfl) (by kernel_rfl) (fun _ _ _ h => h) (Or.inl ⟨by rfl, fun w hSw => by go_simp⟩) (by assumption) ?_
        try simp only [Act.put, List.setIfInBounds_toArray, List.set_cons_zero, List.set_cons_succ]
        refine wpAnyH_take (i := 6) (oi := { dst := some 101, op := Op.move (Operand.tmp 18), type := 3, pos := "law.go:70", after := #[{ on := 1, ground := Ground.guard }], guard := some (1, true) }) (v := .int .i64 ((y : Int) + (c2 : Int))) rfl (by kernel_rfl) (by kernel_rfl) (by kernel_rfl) (fun _ _ _ h => h) (Or.inl ⟨by rfl, fun w hSw => by go_simp⟩) (by assumption) ?_
        try simp only [Act.put, List.setIfInBounds_toArray, List.set_cons_zero, List.set_cons_succ]
        refine wpAnyH_take (i := 7) (oi := { dst := some 102, op := Op.convert 3 22 (Operand.tmp 101), type := 22, pos := "law.go:70", after := #[{ on := 6, ground := Ground.data }, { on := 1, ground := Ground.guard }], guard := some (1, true) }) (v := .int .u16 ((y : Int) + (c2 : Int))) rfl (by kernel_rfl) (by kernel_rfl) (by kernel_rfl) (fun _ _ _ h => h) (Or.inl ⟨by rfl, fun w hSw => by have hwr := HWR.out; go_simp⟩) (by assumption) ?_
        try simp only [Act.put, List.setIfInBounds_toArray, List.set_cons_zero, List.set_cons_succ]
        refine wpAnyH_take (i := 8) (oi := { dst := some 103, op := Op.move (Operand.tmp 5), type := 22, pos := "law.go:70", after := #[{ on := 1, ground := Ground.guard }], guard := some (1, true) }) (v := .int .u16 (s : Int)) rfl (by kernel_rfl) (by kernel_rfl) (by kernel_rfl) (fun _ _ _ h => h) (Or.inl ⟨by rfl, fun w hSw => by go_simp⟩) (by assumption) ?_
        try simp only [Act.put, List.setIfInBounds_toArray, List.set_cons_zero, List.set_cons_succ]
        refine wpAnyH_ready (rs := [4]) (by kernel_rfl) (by simp) ?_
        refine (AllReadyH.cons (o := { dst := some 99, op := Op.call { callee := Callee.value (Operand.func 19), args := #[Operand.tmp 98], argTypes := #[5] }, type := 30, pos := "law.go:70", after := #[{ on := 3, ground := Ground.data }, { on := 1, ground := Ground.chain }, { on := 1, ground := Ground.guard }], guard := some (1, true) }) rfl (fun K hK => ?_) AllReadyH.nil)
        go_simp
        with_reducible refine (CP.out _).mono ?_
        rintro en wd2 ⟨rfl, B3⟩
        refine hK.out _ _ (hHeld.trans (B3.mono hHeld.size)) (fun hHeld2 => ?_)
        clear hK K hHeld
        have hHeld := hHeld2
        clear hHeld2
        try simp only [Act.put, List.setIfInBounds_toArray, List.set_cons_zero, List.set_cons_succ]
        clear B3
        generalize wd2 = wd at *
        refine wpAnyH_take (i := 9) (oi := { dst := some 104, op := Op.build 40 #[(0, Operand.tmp 99), (1, Operand.tmp 100), (2, Operand.tmp 102), (3, Operand.tmp 103)], type := 40, pos := "law.go:70", after := #[{ on := 4, ground := Ground.data }, { on := 5, ground := Ground.data }, { on := 7, ground := Ground.data }, { on := 8, ground := Ground.data }, { on := 1, ground := Ground.guard }], guard := some (1, true) }) (v := .agg #[.int .u32 (pa : Int), .int .u8 (pn : Int), .int .i64 2, .int .u16 ((y : Int) + (c2 : Int)), .int .u16 (s : Int)]) rfl (by kernel_rfl) (by kernel_rfl) (by kernel_rfl) (fun _ _ _ h => h) (Or.inl ⟨by rfl, fun w hSw => by go_simp⟩) (by assumption) ?_
        try simp only [Act.put, List.setIfInBounds_toArray, List.set_cons_zero, List.set_cons_succ]
        refine wpAnyH_take (i := 10) (oi := { dst := some 105, op := Op.binOp BinOp.eql 40 (Operand.tmp 97) (Operand.tmp 104) 40, type := 4, pos := "law.go:70", after := #[{ on := 2, ground := Ground.data }, { on := 9, ground := Ground.data }, { on := 1, ground := Ground.guard }], guard := some (1, true) }) (v := .bool true) rfl (by kernel_rfl) (by kernel_rfl) (by kernel_rfl) (fun _ _ _ h => h) (Or.inl ⟨by rfl, fun w hSw => by go_simp⟩) (by assumption) ?_
        try simp only [Act.put, List.setIfInBounds_toArray, List.set_cons_zero, List.set_cons_succ]
        refine wpAnyH_take (i := 11) (oi := { dst := some 106, op := Op.pick (Operand.tmp 96) (Operand.tmp 105) (Operand.const (Value.bool false)), type := 4, pos := "law.go:70", after := #[{ on := 1, ground := Ground.data }, { on := 10, ground := Ground.data }], guard := none }) (v := .bool true) rfl (by kernel_rfl) (by kernel_rfl) (by kernel_rfl) (fun _ _ _ h => h) (Or.inl ⟨by rfl, fun w hSw => by go_simp⟩) (by assumption) ?_
        try simp only [Act.put, List.setIfInBounds_toArray, List.set_cons_zero, List.set_cons_succ]
        refine wpAnyH_take (i := 12) (oi := { dst := some 12, op := Op.assign (Operand.tmp 106), type := 4, pos := "law.go:70", after := #[{ on := 11, ground := Ground.data }, { on := 4, ground := Ground.chain }, { on := 0, ground := Ground.phase }, { on := 1, ground := Ground.phase }, { on := 2, ground := Ground.phase }, { on := 3, ground := Ground.phase }, { on := 4, ground := Ground.phase }, { on := 5, ground := Ground.phase }, { on := 6, ground := Ground.phase }, { on := 7, ground := Ground.phase }, { on := 8, ground := Ground.phase }, { on := 9, ground := Ground.phase }, { on := 10, ground := Ground.phase }, { on := 11, ground := Ground.phase }], guard := none }) (v := .bool true) rfl (by kernel_rfl) (by kernel_rfl) (by kernel_rfl) (fun _ _ _ h => h) (Or.inl ⟨by rfl, fun w hSw => by go_simp⟩) (by assumption) ?_
        try simp only [Act.put, List.setIfInBounds_toArray, List.set_cons_zero, List.set_cons_succ]
        refine wpAnyH_done (by kernel_rfl) ?_ _
        try unfold NoPanic
        have HD := Lib.hid hHeld
        clear hHeld
        go_wp2
        go_ret
        exact ⟨rfl, HBX.out.2.trans (HD.out.mono HBX.out.2.size)⟩
      · have fx1 : ((x : Int) == 65535) = false := by simp; omega
        have fx2 : ((c1 : Int) == 65535) = false := by simp; omega
        have fx3 : decide ((65535 : Int) ≤ (x : Int) + (c1 : Int)) = true := by simp; omega
        have fy1 : ((y : Int) == 65535) = false := by simp; omega
        have fy2 : ((c2 : Int) == 65535) = false := by simp; omega
        have fy3 : decide ((65535 : Int) ≤ (y : Int) + (c2 : Int)) = false := by simp; omega
        have fy4 : ((y : Int) + (c2 : Int) == 65535) = false := by simp; omega
        have f19 : decide ((y : Int) + (c2 : Int) < (65535 : Int)) = true := by simp; omega
        go_upto_region 22 with (fail)
        have HWR : Hid (IntKind.u16.wrap ((y : Int) + (c2 : Int)) = (y : Int) + (c2 : Int)) := Lib.hid (by rw [IntKind.wrap_u16]; omega)
        refine wp_region_noPanic ?_
        refine wp_region_held_drew (S := fun y9 : World => Below wx.heap.size wx y9) (by kernel_rfl) ((Below.refl _ _).drew) (fun hHeld => ?_)
        generalize wx.drew = wd at *
        refine wpAnyH_take (i := 0) (oi := { dst := some 95, op := Op.move (Operand.tmp 15), type := 4, pos := "law.go:70", after := #[], guard := none }) (v := .bool true) rfl (by kernel_rfl) (by kernel_rfl) (by kernel_rfl) (fun _ _ _ h => h) (Or.inl ⟨by rfl, fun w hSw => by go_simp⟩) (by assumption) ?_
        try simp only [Act.put, List.setIfInBounds_toArray, List.set_cons_zero, List.set_cons_succ]
        refine wpAnyH_take (i := 1) (oi := { dst := some 96, op := Op.move (Operand.tmp 95), type := 4, pos := "law.go:70", after := #[{ on := 0, ground := Ground.data }], guard := none }) (v := .bool true) rfl (by kernel_rfl) (by kernel_rfl) (by kernel_rfl) (fun _ _ _ h => h) (Or.inl ⟨by rfl, fun w hSw => by go_simp⟩) (by assumption) ?_
        try simp only [Act.put, List.setIfInBounds_toArray, List.set_cons_zero, List.set_cons_succ]
        refine wpAnyH_take (i := 2) (oi := { dst := some 97, op := Op.load 40 (Operand.tmp 14), type := 40, pos := "law.go:70", after := #[{ on := 1, ground := Ground.guard }], guard := some (1, true) }) (v := .agg #[.int .u32 (pa : Int), .int .u8 (pn : Int), .int .i64 2, .int .u16 ((y : Int) + (c2 : Int)), .int .u16 (s : Int)]) rfl (by kernel_rfl) (by kernel_rfl) (by kernel_rfl) (fun _ _ _ h => h) (Or.inl ⟨by rfl, fun w hSw => by obtain ⟨k0, k1, k2, k3, k4, -⟩ := row5' (brow hSw HBX.out.1); go_simp⟩) (by assumption) ?_
        try simp only [Act.put, List.setIfInBounds_toArray, List.set_cons_zero, List.set_cons_succ]
        refine wpAnyH_take (i := 3) (oi := { dst := some 98, op := Op.move (Operand.tmp 4), type := 5, pos := "law.go:70", after := #[{ on := 1, ground := Ground.guard }], guard := some (1, true) }) (v := .int .u8 (p : Int)) rfl (by kernel_rfl) (by kernel_rfl) (by kernel_rfl) (fun _ _ _ h => h) (Or.inl ⟨by rfl, fun w hSw => by go_simp⟩) (by assumption) ?_
        try simp only [Act.put, List.setIfInBounds_toArray, List.set_cons_zero, List.set_cons_succ]
        refine wpAnyH_take (i := 5) (oi := { dst := some 100, op := Op.move (Operand.tmp 20), type := 3, pos := "law.go:70", after := #[{ on := 1, ground := Ground.guard }], guard := some (1, true) }) (v := .int .i64 2) rfl (by kernel_rfl) (by kernel_rfl) (by kernel_rfl) (fun _ _ _ h => h) (Or.inl ⟨by rfl, fun w hSw => by go_simp⟩) (by assumption) ?_
        try simp only [Act.put, List.setIfInBounds_toArray, List.set_cons_zero, List.set_cons_succ]
        refine wpAnyH_take (i := 6) (oi := { dst := some 101, op := Op.move (Operand.tmp 18), type := 3, pos := "law.go:70", after := #[{ on := 1, ground := Ground.guard }], guard := some (1, true) }) (v := .int .i64 ((y : Int) + (c2 : Int))) rfl (by kernel_rfl) (by kernel_rfl) (by kernel_rfl) (fun _ _ _ h => h) (Or.inl ⟨by rfl, fun w hSw => by go_simp⟩) (by assumption) ?_
        try simp only [Act.put, List.setIfInBounds_toArray, List.set_cons_zero, List.set_cons_succ]
        refine wpAnyH_take (i := 7) (oi := { dst := some 102, op := Op.convert 3 22 (Operand.tmp 101), type := 22, pos := "law.go:70", after := #[{ on := 6, ground := Ground.data }, { on := 1, ground := Ground.guard }], guard := some (1, true) }) (v := .int .u16 ((y : Int) + (c2 : Int))) rfl (by kernel_rfl) (by kernel_rfl) (by kernel_rfl) (fun _ _ _ h => h) (Or.inl ⟨by rfl, fun w hSw => by have hwr := HWR.out; go_simp⟩) (by assumption) ?_
        try simp only [Act.put, List.setIfInBounds_toArray, List.set_cons_zero, List.set_cons_succ]
        refine wpAnyH_take (i := 8) (oi := { dst := some 103, op := Op.move (Operand.tmp 5), type := 22, pos := "law.go:70", after := #[{ on := 1, ground := Ground.guard }], guard := some (1, true) }) (v := .int .u16 (s : Int)) rfl (by kernel_rfl) (by kernel_rfl) (by kernel_rfl) (fun _ _ _ h => h) (Or.inl ⟨by rfl, fun w hSw => by go_simp⟩) (by assumption) ?_
        try simp only [Act.put, List.setIfInBounds_toArray, List.set_cons_zero, List.set_cons_succ]
        refine wpAnyH_ready (rs := [4]) (by kernel_rfl) (by simp) ?_
        refine (AllReadyH.cons (o := { dst := some 99, op := Op.call { callee := Callee.value (Operand.func 19), args := #[Operand.tmp 98], argTypes := #[5] }, type := 30, pos := "law.go:70", after := #[{ on := 3, ground := Ground.data }, { on := 1, ground := Ground.chain }, { on := 1, ground := Ground.guard }], guard := some (1, true) }) rfl (fun K hK => ?_) AllReadyH.nil)
        go_simp
        with_reducible refine (CP.out _).mono ?_
        rintro en wd2 ⟨rfl, B3⟩
        refine hK.out _ _ (hHeld.trans (B3.mono hHeld.size)) (fun hHeld2 => ?_)
        clear hK K hHeld
        have hHeld := hHeld2
        clear hHeld2
        try simp only [Act.put, List.setIfInBounds_toArray, List.set_cons_zero, List.set_cons_succ]
        clear B3
        generalize wd2 = wd at *
        refine wpAnyH_take (i := 9) (oi := { dst := some 104, op := Op.build 40 #[(0, Operand.tmp 99), (1, Operand.tmp 100), (2, Operand.tmp 102), (3, Operand.tmp 103)], type := 40, pos := "law.go:70", after := #[{ on := 4, ground := Ground.data }, { on := 5, ground := Ground.data }, { on := 7, ground := Ground.data }, { on := 8, ground := Ground.data }, { on := 1, ground := Ground.guard }], guard := some (1, true) }) (v := .agg #[.int .u32 (pa : Int), .int .u8 (pn : Int), .int .i64 2, .int .u16 ((y : Int) + (c2 : Int)), .int .u16 (s : Int)]) rfl (by kernel_rfl) (by kernel_rfl) (by kernel_rfl) (fun _ _ _ h => h) (Or.inl ⟨by rfl, fun w hSw => by go_simp⟩) (by assumption) ?_
        try simp only [Act.put, List.setIfInBounds_toArray, List.set_cons_zero, List.set_cons_succ]
        refine wpAnyH_take (i := 10) (oi := { dst := some 105, op := Op.binOp BinOp.eql 40 (Operand.tmp 97) (Operand.tmp 104) 40, type := 4, pos := "law.go:70", after := #[{ on := 2, ground := Ground.data }, { on := 9, ground := Ground.data }, { on := 1, ground := Ground.guard }], guard := some (1, true) }) (v := .bool true) rfl (by kernel_rfl) (by kernel_rfl) (by kernel_rfl) (fun _ _ _ h => h) (Or.inl ⟨by rfl, fun w hSw => by go_simp⟩) (by assumption) ?_
        try simp only [Act.put, List.setIfInBounds_toArray, List.set_cons_zero, List.set_cons_succ]
        refine wpAnyH_take (i := 11) (oi := { dst := some 106, op := Op.pick (Operand.tmp 96) (Operand.tmp 105) (Operand.const (Value.bool false)), type := 4, pos := "law.go:70", after := #[{ on := 1, ground := Ground.data }, { on := 10, ground := Ground.data }], guard := none }) (v := .bool true) rfl (by kernel_rfl) (by kernel_rfl) (by kernel_rfl) (fun _ _ _ h => h) (Or.inl ⟨by rfl, fun w hSw => by go_simp⟩) (by assumption) ?_
        try simp only [Act.put, List.setIfInBounds_toArray, List.set_cons_zero, List.set_cons_succ]
        refine wpAnyH_take (i := 12) (oi := { dst := some 12, op := Op.assign (Operand.tmp 106), type := 4, pos := "law.go:70", after := #[{ on := 11, ground := Ground.data }, { on := 4, ground := Ground.chain }, { on := 0, ground := Ground.phase }, { on := 1, ground := Ground.phase }, { on := 2, ground := Ground.phase }, { on := 3, ground := Ground.phase }, { on := 4, ground := Ground.phase }, { on := 5, ground := Ground.phase }, { on := 6, ground := Ground.phase }, { on := 7, ground := Ground.phase }, { on := 8, ground := Ground.phase }, { on := 9, ground := Ground.phase }, { on := 10, ground := Ground.phase }, { on := 11, ground := Ground.phase }], guard := none }) (v := .bool true) rfl (by kernel_rfl) (by kernel_rfl) (by kernel_rfl) (fun _ _ _ h => h) (Or.inl ⟨by rfl, fun w hSw => by go_simp⟩) (by assumption) ?_
        try simp only [Act.put, List.setIfInBounds_toArray, List.set_cons_zero, List.set_cons_succ]
        refine wpAnyH_done (by kernel_rfl) ?_ _
        try unfold NoPanic
        have HD := Lib.hid hHeld
        clear hHeld
        go_wp2
        go_ret
        exact ⟨rfl, HBX.out.2.trans (HD.out.mono HBX.out.2.size)⟩
  · rw [if_neg hcs.1, if_neg hcs.2] at HK
    have HRU : Hid (∀ W, LW w1 W q e7 [] → Calls Tryz.prog 18 #[.pointer (some ⟨q, 0, none⟩), .agg #[.int .u32 (pa : Int), .int .u8 (pn : Int)]] W fun en w' => en = .returned (.tuple #[.agg #[.int .u32 0, .int .u8 0, .int .i64 0, .int .u16 0, .int .u16 0], .bool false]) ∧ LW w1 w' q e7 []) := Lib.hid fun W h => by
      have h9 := HRT.out W h
      rw [HK.out] at h9
      exact h9
    clear HRT HK
    go_upto_region 8 with (first
      | (go_at_call 19; (with_reducible refine (CP.out _).mono ?_); rintro en w8 ⟨rfl, hB⟩; have HL8 := Lib.hid (HL7.out.step hB); clear hB)
      | (go_at_call 18; (with_reducible refine (HRU.out _ HL8.out).mono ?_); rintro en w9 ⟨rfl, hL⟩; have HB9 := Lib.hid (H1.out.trans (hL.b.mono H1.out.size)); clear hL HRU))
    have HBX := Lib.hid (And.intro (heap_alloc_new w9 (.cells #[.int .u32 0, .int .u8 0, .int .i64 0, .int .u16 0, .int .u16 0] 40)) (HB9.out.alloc HB9.out.size (.cells #[.int .u32 0, .int .u8 0, .int .i64 0, .int .u16 0, .int .u16 0] 40)))
    generalize World.alloc w9 _ = wx at *
    generalize w9.heap.size = bx at *
    go_upto_region 12 with (first
      | (go_at_call 20; (with_reducible refine (CA.out _).mono ?_); rintro en wk ⟨rfl, rfl⟩)
      | (go_at_call 20; (with_reducible refine (CB.out _).mono ?_); rintro en wk ⟨rfl, rfl⟩))
    have h3 : x = 65535 ∨ (x ≠ 65535 ∧ c1 = 65535) ∨ (x ≠ 65535 ∧ c1 ≠ 65535 ∧ 65535 ≤ x + c1) := by omega
    rcases h3 with h3 | h3 | h3
    · have fx1 : ((x : Int) == 65535) = true := by simp; omega
      have h3 : y = 65535 ∨ (y ≠ 65535 ∧ c2 = 65535) ∨ (y ≠ 65535 ∧ c2 ≠ 65535 ∧ 65535 ≤ y + c2) := by omega
      rcases h3 with h3 | h3 | h3
      · have fy1 : ((y : Int) == 65535) = true := by simp; omega
        go_wp2
        go_ret
        exact ⟨rfl, HBX.out.2⟩
      · have fy1 : ((y : Int) == 65535) = false := by simp; omega
        have fy2 : ((c2 : Int) == 65535) = true := by simp; omega
        go_wp2
        go_ret
        exact ⟨rfl, HBX.out.2⟩
      · have fy1 : ((y : Int) == 65535) = false := by simp; omega
        have fy2 : ((c2 : Int) == 65535) = false := by simp; omega
        have fy3 : decide ((65535 : Int) ≤ (y : Int) + (c2 : Int)) = true := by simp; omega
        go_wp2
        go_ret
        exact ⟨rfl, HBX.out.2⟩
    · have fx1 : ((x : Int) == 65535) = false := by simp; omega
      have fx2 : ((c1 : Int) == 65535) = true := by simp; omega
      have h3 : y = 65535 ∨ (y ≠ 65535 ∧ c2 = 65535) ∨ (y ≠ 65535 ∧ c2 ≠ 65535 ∧ 65535 ≤ y + c2) := by omega
      rcases h3 with h3 | h3 | h3
      · have fy1 : ((y : Int) == 65535) = true := by simp; omega
        go_wp2
        go_ret
        exact ⟨rfl, HBX.out.2⟩
      · have fy1 : ((y : Int) == 65535) = false := by simp; omega
        have fy2 : ((c2 : Int) == 65535) = true := by simp; omega
        go_wp2
        go_ret
        exact ⟨rfl, HBX.out.2⟩
      · have fy1 : ((y : Int) == 65535) = false := by simp; omega
        have fy2 : ((c2 : Int) == 65535) = false := by simp; omega
        have fy3 : decide ((65535 : Int) ≤ (y : Int) + (c2 : Int)) = true := by simp; omega
        go_wp2
        go_ret
        exact ⟨rfl, HBX.out.2⟩
    · have fx1 : ((x : Int) == 65535) = false := by simp; omega
      have fx2 : ((c1 : Int) == 65535) = false := by simp; omega
      have fx3 : decide ((65535 : Int) ≤ (x : Int) + (c1 : Int)) = true := by simp; omega
      have h3 : y = 65535 ∨ (y ≠ 65535 ∧ c2 = 65535) ∨ (y ≠ 65535 ∧ c2 ≠ 65535 ∧ 65535 ≤ y + c2) := by omega
      rcases h3 with h3 | h3 | h3
      · have fy1 : ((y : Int) == 65535) = true := by simp; omega
        go_wp2
        go_ret
        exact ⟨rfl, HBX.out.2⟩
      · have fy1 : ((y : Int) == 65535) = false := by simp; omega
        have fy2 : ((c2 : Int) == 65535) = true := by simp; omega
        go_wp2
        go_ret
        exact ⟨rfl, HBX.out.2⟩
      · have fy1 : ((y : Int) == 65535) = false := by simp; omega
        have fy2 : ((c2 : Int) == 65535) = false := by simp; omega
        have fy3 : decide ((65535 : Int) ≤ (y : Int) + (c2 : Int)) = true := by simp; omega
        go_wp2
        go_ret
        exact ⟨rfl, HBX.out.2⟩

set_option maxRecDepth 100000 in
theorem lifted (os : Os) (started : os.Started) (H : Type) (enc : TypeId × Value → H) :
    ReturnsInHanded {} Tryz.checked os 3 .any (fun w args => (Rows.engineChoosesSpec.pre enc Tryz.prog Tryz.f3 Rows.engineChoosesRow.domain false w args ∧ laidMet Tryz.prog Rows.engineChoosesRow.laid w) ∧ sizedMet enc Tryz.prog Tryz.f3 (OpenSpec.ofChange Rows.engineChoosesSpec) false w args)
      (Rows.engineChoosesSpec.post enc Tryz.prog Tryz.f3 false true false false) := by
  refine returnsInHanded_of_change_and (C := Tryz.checked) (X := fun w _ => laidMet Tryz.prog Rows.engineChoosesRow.laid w) (fun _ _ _ hh h => h.of_heap hh) own started (by kernel_rfl) Tryz.func3
    (ChangeSpec.witness_at (enc := enc) (C := Tryz.checked) (os := os) (X := fun w _ => laidMet Tryz.prog Rows.engineChoosesRow.laid w) false (laidWorld os) #[.int .u16 0, .int .u16 0, .int .u16 0, .int .u16 0, .int .u8 0, .int .u16 0] 8 rfl (by kernel_rfl) (by kernel_rfl) (by kernel_rfl) (by kernel_rfl) (by kernel_rfl) (laid_met os _)) ?_
  intro W base args ds gs before hval0 hW hcnd _ hL _
  have hval : ∀ (j : Nat) t v, Tryz.f3.params[j]? = some t → args[j]? = some v → Value.okWide Tryz.prog W .any base t v := hval0
  have hW' := hW
  obtain ⟨p, q, hA0, hV, rfl, hfz, hnd⟩ := hW
  have hA : DataW.TrodAll enc Tryz.prog W 0 (fun _ => true) true Tryz.f3.params.toList args.toList ds p := hA0
  rw [Tryz.params3] at hA hval
  obtain ⟨v0, vs0, d0, ds0, p0, q0, hargs, rfl, rfl, h0, r0⟩ := trodAll_cons hA
  obtain ⟨v1, vs1, d1, ds1, p1, q1, rfl, rfl, rfl, h1, r1⟩ := trodAll_cons r0
  obtain ⟨v2, vs2, d2, ds2, p2, q2, rfl, rfl, rfl, h2, r2⟩ := trodAll_cons r1
  obtain ⟨v3, vs3, d3, ds3, p3, q3, rfl, rfl, rfl, h3, r3⟩ := trodAll_cons r2
  obtain ⟨v4, vs4, d4, ds4, p4, q4, rfl, rfl, rfl, h4, r4⟩ := trodAll_cons r3
  obtain ⟨v5, vs5, d5, ds5, p5, q5, rfl, rfl, rfl, h5, r5⟩ := trodAll_cons r4
  obtain ⟨rfl, rfl, rfl⟩ := trodAll_nil r5
  obtain rfl : args = #[v0, v1, v2, v3, v4, v5] := by cases args; simp_all
  obtain ⟨rfl, rfl⟩ := trodVars_none hV
  obtain ⟨a0, rfl, rfl, rfl, w0⟩ := open_int Tryz.underlying22 (hval 0 22 v0 rfl rfl) h0
  obtain ⟨a1, rfl, rfl, rfl, w1⟩ := open_int Tryz.underlying22 (hval 1 22 v1 rfl rfl) h1
  obtain ⟨a2, rfl, rfl, rfl, w2⟩ := open_int Tryz.underlying22 (hval 2 22 v2 rfl rfl) h2
  obtain ⟨a3, rfl, rfl, rfl, w3⟩ := open_int Tryz.underlying22 (hval 3 22 v3 rfl rfl) h3
  obtain ⟨a4, rfl, rfl, rfl, w4⟩ := open_int Tryz.underlying5 (hval 4 5 v4 rfl rfl) h4
  obtain ⟨a5, rfl, rfl, rfl, w5⟩ := open_int Tryz.underlying22 (hval 5 22 v5 rfl rfl) h5
  clear hA0 hval0
  refine (walk a0 a1 a2 a3 a4 a5 W w0 w1 w2 w3 w4 w5 (Lk.tab_of_laid hL)).mono fun e W' ⟨he, bel⟩ => ?_
  subst he
  exact ⟨_, rfl, _, _, _, [], _, [], hW', trodAll_mk1 (shut_bool Tryz.underlying4 _), (trodAll_cons_mk (shut_int Tryz.underlying22 w0) (trodAll_cons_mk (shut_int Tryz.underlying22 w1) (trodAll_cons_mk (shut_int Tryz.underlying22 w2) (trodAll_cons_mk (shut_int Tryz.underlying22 w3) (trodAll_cons_mk (shut_int Tryz.underlying5 w4) (trodAll_cons_mk (shut_int Tryz.underlying22 w5) trodAll_mk0)))))), rfl, bel.frame _, fun h => by cases h⟩

theorem over : Rows.engineChoosesRow.holds Tryz.pinned (OpenSpec.ofChange Rows.engineChoosesSpec) :=
  OpenClaim.holds_of_wide 3 Tryz.f3 rfl rfl rfl rfl rfl rfl rfl ⟨rfl, rfl, rfl, rfl, rfl⟩ rfl rfl rfl rfl rfl (by kernel_rfl) Tryz.func3 (by kernel_rfl)
    (of_decide_eq_true (by kernel_rfl)) (by unfold Func.isWrapper; first | (rw [if_pos (by decide +kernel)]; kernel_rfl) | (rw [if_neg (by decide +kernel)]; exact ⟨rfl, rfl⟩))
    (fun os started H enc _ => lifted os started H enc)

theorem proved : Rows.EngineChoosesCardSaid :=
  Claim7.holds_tied_plain_at .later [] [.data] true (true, "73430b27a30ada73018fe7c3192a9fa6d4b7bfc394d4113e0a57e1736d749f34") false
    over (fun _ h => by cases h) (by kernel_rfl) (fun _ h => by cases h) engineChooses_row_tie rfl ⟨rfl, rfl⟩ (by kernel_rfl) rfl
    (fun f fn hf hfn => by
      obtain rfl : f = 3 := Option.some.inj ((show Tryz.prog.funcNamed "milestone/milestonelaw17.EngineChooses" = some 3 by kernel_rfl).symm.trans hf) |>.symm
      obtain rfl : fn = Tryz.f3 := (Option.some.inj (Tryz.func3.symm.trans hfn)).symm
      exact ⟨by kernel_rfl, fun j t ht => by
        rw [Tryz.params3] at ht
        have hm : t ∈ [22, 22, 22, 22, 5, 22] := by simpa using Array.mem_of_getElem? ht
        have hall : ([22, 22, 22, 22, 5, 22].all fun u => !Tryz.prog.wantsStandIn u) = true := by kernel_rfl
        exact (show Tryz.prog.wantsStandIn t = false by simpa using List.all_eq_true.1 hall t hm)⟩)
    (by kernel_rfl)
#print axioms proved
end Go.Proofs.YtjbogjbopgcbhaaGreatDoor.Eg.engineChooses
