/-
  'For every input the Go function milestonelaw17.EngineKeeps returns true, and each argument reads behind the call as it read before.'
  Conditions: none but the row's own (linux/amd64, sizes of what is read within the address space).
-/
import Derived.Test.YtjbogjbopgcbhaaGreatDoorRows
import Derived.WalkKit
import Derived.ProofKit
import Derived.OpenShut
import Derived.ShutString
import Derived.ChangeOld
import Derived.Below
import Derived.Lib.SmallJoins
import Derived.Lib.Hide
import Derived.Test.YtjbogjbopgcbhaaGreatDoorZM
import Derived.Test.YtjbogjbopgcbhaaGreatDoorZLaid
import Derived.Test.YtjbogjbopgcbhaaGreatDoorCards
import Derived.Test.YtjbogjbopgcbhaaGreatDoorTie
import Derived.SevenTiedAt
import Derived.Laws.Closers25b
namespace Go.Proofs.YtjbogjbopgcbhaaGreatDoor.engineKeeps
open Pre
open Ser
open Rts
open Eg
open Go.Proofs.YtjbogjbopgcbhaaGreatDoor.Src (row1 row2 Mk SrcAt pA pN)
open Go.Proofs.YtjbogjbopgcbhaaGreatDoor.Lk (laidWorld laid_met)
open Go.ChangeShapes Go.WideShapes Go.ChangeAt Go.RowKit
open Go.ChangeMaps (open_string shut_string)
set_option linter.unusedVariables false
set_option maxRecDepth 8000

theorem own : ownKnob Tryz.prog.godebug = none := by kernel_rfl
theorem laidOut : laidOutB Tryz.prog = true := by kernel_rfl

set_option maxHeartbeats 16000000 in
theorem walk (a0 : Int) (a1 : Int) (a2 : Int) (w : World) (w0 : (Lit.int .u16 a0).wf = true) (w1 : (Lit.int .u16 a1).wf = true) (w2 : (Lit.int .u8 a2).wf = true) (hp : Lk.Tab w) :
    Calls Tryz.prog 10 #[.int .u16 a0, .int .u16 a1, .int .u8 a2] w fun e w' => e = .returned (.bool true) ∧ Below w.heap.size w w' := by
  have b0 := bounds_u16 w0
  have b1 := bounds_u16 w1
  have b2 := bounds_u8 w2
  obtain ⟨s, rfl⟩ := Int.eq_ofNat_of_zero_le b0.1
  obtain ⟨m, rfl⟩ := Int.eq_ofNat_of_zero_le b1.1
  obtain ⟨y, rfl⟩ := Int.eq_ofNat_of_zero_le b2.1
  clear w0 w1 w2
  have h0 := Lk.tab_size hp
  have HT := Lib.hid hp
  clear hp
  have HM : Hid (∀ W, Lk.Tab W → Calls Tryz.prog 14 #[.int .u16 96, .int .u16 96] W fun en w' => ∃ q w1, en = .returned (.pointer (some ⟨q, 0, none⟩)) ∧ Below W.heap.size W w1 ∧ LW w1 w' q (Eng.m0 96 96) []) := Lib.hid fun W h => met_any W 96 96 (by decide) (by decide) h
  have HU : Hid (Pt.Ok ⟨3, 0, 0, 201326592, 24, s, m⟩) := Lib.hid ⟨show 3 < 256 by decide, show 0 < 4611686018427387904 by decide, show 0 < 16 by decide, show 201326592 < 4294967296 by decide, show 24 < 256 by decide, right_own, show s < 65536 by omega, show m ≤ 65535 by omega⟩
  have HUP : Hid (∀ k, (Eng.m0 96 96).upd k 2 ⟨3, 0, 0, 201326592, 24, s, m⟩ = Eng.m0 96 96) := Lib.hid fun k => rfl
  have HSO : Hid (∀ k, ((Eng.m0 96 96).upd k 2 ⟨3, 0, 0, 201326592, 24, s, m⟩).SelOk) := Lib.hid fun k => by
    rw [HUP.out k]
    exact ⟨fun x hx => (by cases hx), fun h hh x hx => (by cases hx), List.pairwise_singleton _ _, by decide, by decide⟩
  clear b0 b1
  have hy : y % 2 = 0 ∨ y % 2 = 1 := by omega
  rcases hy with hy | hy
  · have hy2 : (y : Int) % 2 = 0 := by omega
    clear hy
    go_enter Tryz.func10, Tryz.ntmps10
    go_upto_region 6 with (first
      | (go_at_call 13; (with_reducible refine (awake_any w HT.out).mono ?_); rintro en wa ⟨rfl, hB⟩; have HA := Lib.hid (And.intro hB (Lk.tab_below HT.out hB h0)); clear hB)
      | (go_at_call 14; (with_reducible refine (HM.out _ HA.out.2).mono ?_); rintro en w2 ⟨q, w1, rfl, hB, hL⟩; have H1 := Lib.hid (HA.out.1.trans (hB.mono HA.out.1.size)); have HL := Lib.hid hL; clear hB hL HM)
      | (go_at_call 25; (with_reducible refine (own_call _).mono ?_); rintro en w3 ⟨z, rfl, hS, hR, B⟩; have HL3 := Lib.hid (HL.out.step B); obtain ⟨p0, p1, -⟩ := row2 hR; have hzl := (Array.getElem?_eq_some_iff.1 hR).1; clear hS hR B HL)
      | (go_at_call 15; (with_reducible refine (hear_12 (HL3.out.add #[.int .u8 3, .int .u64 0, .int .i64 0, .int .u32 201326592, .int .u8 24, .int .u16 (s : Int), .int .u16 (m : Int)] 32) (m0_met 96 96) (row_up w3 0 201326592 24 s m) HU.out rfl (by decide)).mono ?_); rintro en w4 ⟨rfl, hL⟩; have HL4 := Lib.hid hL; clear hL HL3)
      | (go_at_call 17; (with_reducible refine (select_lw HL4.out (HSO.out _)).mono ?_); rintro en w5 ⟨v', e', ts, rfl, hS, hL, hO, -⟩; rw [HUP.out] at hS; obtain rfl := sel_none hS rfl rfl rfl; obtain ⟨A3, lc, hv3, -, hc⟩ := hO.form (fun _ => rfl); obtain ⟨lb, hA, -, hlb, hcc⟩ := hc 0 (by decide); subst hA; have hv3 : v' = .slice (some ⟨lb, 0, none⟩) 1 lc := hv3; have HC : Hid (OWNC w5 lb) := Lib.hid ⟨hcc 0 (by decide), hcc 1 (by decide), hcc 2 (by decide), hcc 3 (by decide), hcc 4 (by decide)⟩; have HLB := Lib.hid hlb; have HL3 := Lib.hid hL; subst hv3; clear hS hL hO hc hcc hlb HL4))
    refine wp_region_noPanic ?_
    refine wp_region_held_drew (S := fun y : World => Below w5.heap.size w5 y) (by kernel_rfl) ((Below.refl _ _).drew) (fun hHeld => ?_)
    generalize w5.drew = wd at *
    refine wpAnyH_take (i := 0) (oi := { dst := some 28, op := Op.move (Operand.tmp 8), type := 37, pos := "more.go:18", after := #[], guard := none }) (v := .slice (some ⟨lb, 0, none⟩) 1 lc) rfl (by kernel_rfl) (by kernel_rfl) (by kernel_rfl) (fun _ _ _ h => h) (Or.inl ⟨by rfl, fun w hSw => by go_simp⟩) (by assumption) ?_
    try simp only [Act.put, List.setIfInBounds_toArray, List.set_cons_zero, List.set_cons_succ]
    refine wpAnyH_take (i := 1) (oi := { dst := some 29, op := Op.call { callee := Callee.builtin Builtin.len, args := #[Operand.tmp 28], argTypes := #[37] }, type := 3, pos := "more.go:18", after := #[{ on := 0, ground := Ground.data }], guard := none }) (v := .int .i64 (1 : Nat)) rfl (by kernel_rfl) (by kernel_rfl) (by kernel_rfl) (fun _ _ _ h => h) (Or.inl ⟨by rfl, fun w hSw => by go_simp⟩) (by assumption) ?_
    try simp only [Act.put, List.setIfInBounds_toArray, List.set_cons_zero, List.set_cons_succ]
    refine wpAnyH_take (i := 2) (oi := { dst := some 30, op := Op.binOp BinOp.eql 3 (Operand.tmp 29) (Operand.const (Value.int IntKind.i64 1)) 3, type := 4, pos := "more.go:18", after := #[{ on := 1, ground := Ground.data }], guard := none }) (v := .bool true) rfl (by kernel_rfl) (by kernel_rfl) (by kernel_rfl) (fun _ _ _ h => h) (Or.inl ⟨by rfl, fun w hSw => by go_simp⟩) (by assumption) ?_
    try simp only [Act.put, List.setIfInBounds_toArray, List.set_cons_zero, List.set_cons_succ]
    refine wpAnyH_take (i := 3) (oi := { dst := some 31, op := Op.move (Operand.tmp 30), type := 4, pos := "more.go:18", after := #[{ on := 2, ground := Ground.data }], guard := none }) (v := .bool true) rfl (by kernel_rfl) (by kernel_rfl) (by kernel_rfl) (fun _ _ _ h => h) (Or.inl ⟨by rfl, fun w hSw => by go_simp⟩) (by assumption) ?_
    try simp only [Act.put, List.setIfInBounds_toArray, List.set_cons_zero, List.set_cons_succ]
    refine wpAnyH_take (i := 4) (oi := { dst := some 32, op := Op.move (Operand.tmp 8), type := 37, pos := "more.go:18", after := #[{ on := 3, ground := Ground.guard }], guard := some (3, true) }) (v := .slice (some ⟨lb, 0, none⟩) 1 lc) rfl (by kernel_rfl) (by kernel_rfl) (by kernel_rfl) (fun _ _ _ h => h) (Or.inl ⟨by rfl, fun w hSw => by go_simp⟩) (by assumption) ?_
    try simp only [Act.put, List.setIfInBounds_toArray, List.set_cons_zero, List.set_cons_succ]
    refine wpAnyH_take (i := 5) (oi := { dst := some 33, op := Op.indexAddr 37 (Operand.tmp 32) (Operand.const (Value.int IntKind.i64 0)), type := 0, pos := "more.go:18", after := #[{ on := 4, ground := Ground.data }, { on := 3, ground := Ground.guard }], guard := some (3, true) }) (v := .pointer (some ⟨lb, 0, none⟩)) rfl (by kernel_rfl) (by kernel_rfl) (by kernel_rfl) (fun _ _ _ h => h) (Or.inl ⟨by rfl, fun w hSw => by go_simp⟩) (by assumption) ?_
    try simp only [Act.put, List.setIfInBounds_toArray, List.set_cons_zero, List.set_cons_succ]
    refine wpAnyH_take (i := 6) (oi := { dst := some 34, op := Op.load 40 (Operand.tmp 33), type := 40, pos := "more.go:18", after := #[{ on := 5, ground := Ground.data }, { on := 3, ground := Ground.guard }], guard := some (3, true) }) (v := .agg #[.int .u32 201326592, .int .u8 24, .int .i64 0, .int .u16 0, .int .u16 1]) rfl (by kernel_rfl) (by kernel_rfl) (by kernel_rfl) (fun _ _ _ h => h) (Or.inl ⟨by rfl, fun w hSw => by obtain ⟨k0, k1, k2, k3, k4⟩ := HC.out; have hb := Ser.bcell hSw; have hlt := Nat.lt_of_lt_of_le HLB.out hSw.size; rw [← hb.1 _ _ HLB.out] at k0 k1 k2 k3 k4; go_simp⟩) (by assumption) ?_
    try simp only [Act.put, List.setIfInBounds_toArray, List.set_cons_zero, List.set_cons_succ]
    refine wpAnyH_ready (rs := [7]) (by kernel_rfl) (by simp) ?_
    refine (AllReadyH.cons (o := { dst := some 35, op := Op.call { callee := Callee.value (Operand.func 25), args := #[], argTypes := #[] }, type := 64, pos := "more.go:18", after := #[{ on := 3, ground := Ground.chain }, { on := 3, ground := Ground.guard }], guard := some (3, true) }) rfl (fun K hK => ?_) AllReadyH.nil)
    have hct := own_call wd
    go_simp
    with_reducible refine hct.mono ?_
    rintro en wd2 ⟨z, rfl, hO, hOR, B3⟩
    have HO := Lib.hid hOR
    refine hK.out _ _ (hHeld.trans (B3.mono hHeld.size)) (fun hHeld2 => ?_)
    clear hK K hHeld
    have hHeld := hHeld2
    clear hHeld2
    try simp only [Act.put, List.setIfInBounds_toArray, List.set_cons_zero, List.set_cons_succ]
    clear hct hO hOR B3
    generalize wd2 = wd at *
    refine wpAnyH_take (i := 8) (oi := { dst := some 36, op := Op.indexAddr 64 (Operand.tmp 35) (Operand.const (Value.int IntKind.i64 0)), type := 0, pos := "more.go:18", after := #[{ on := 7, ground := Ground.data }, { on := 3, ground := Ground.guard }], guard := some (3, true) }) (v := .pointer (some ⟨z, 0, none⟩)) rfl (by kernel_rfl) (by kernel_rfl) (by kernel_rfl) (fun _ _ _ h => h) (Or.inl ⟨by rfl, fun w hSw => by go_simp⟩) (by assumption) ?_
    try simp only [Act.put, List.setIfInBounds_toArray, List.set_cons_zero, List.set_cons_succ]
    refine wpAnyH_ready (rs := [9]) (by kernel_rfl) (by simp) ?_
    refine (AllReadyH.cons (o := { dst := some 37, op := Op.load 30 (Operand.tmp 36), type := 30, pos := "more.go:18", after := #[{ on := 8, ground := Ground.data }, { on := 3, ground := Ground.guard }], guard := some (3, true) }) rfl (fun K hK => ?_) AllReadyH.nil)
    obtain ⟨p0, p1, -⟩ := row2 HO.out
    have hzl := (Array.getElem?_eq_some_iff.1 HO.out).1
    go_simp
    refine hK.out _ _ (hHeld) (fun hHeld2 => ?_)
    clear hK K hHeld
    have hHeld := hHeld2
    clear hHeld2
    try simp only [Act.put, List.setIfInBounds_toArray, List.set_cons_zero, List.set_cons_succ]
    refine wpAnyH_take (i := 10) (oi := { dst := some 38, op := Op.build 40 #[(0, Operand.tmp 37), (1, Operand.const (Value.int IntKind.i64 0)), (2, Operand.const (Value.int IntKind.u16 0)), (3, Operand.const (Value.int IntKind.u16 1))], type := 40, pos := "more.go:18", after := #[{ on := 9, ground := Ground.data }, { on := 3, ground := Ground.guard }], guard := some (3, true) }) (v := .agg #[.int .u32 201326592, .int .u8 24, .int .i64 0, .int .u16 0, .int .u16 1]) rfl (by kernel_rfl) (by kernel_rfl) (by kernel_rfl) (fun _ _ _ h => h) (Or.inl ⟨by rfl, fun w hSw => by go_simp⟩) (by assumption) ?_
    try simp only [Act.put, List.setIfInBounds_toArray, List.set_cons_zero, List.set_cons_succ]
    refine wpAnyH_take (i := 11) (oi := { dst := some 39, op := Op.binOp BinOp.eql 40 (Operand.tmp 34) (Operand.tmp 38) 40, type := 4, pos := "more.go:18", after := #[{ on := 6, ground := Ground.data }, { on := 10, ground := Ground.data }, { on := 3, ground := Ground.guard }], guard := some (3, true) }) (v := .bool true) rfl (by kernel_rfl) (by kernel_rfl) (by kernel_rfl) (fun _ _ _ h => h) (Or.inl ⟨by rfl, fun w hSw => by go_simp⟩) (by assumption) ?_
    try simp only [Act.put, List.setIfInBounds_toArray, List.set_cons_zero, List.set_cons_succ]
    refine wpAnyH_take (i := 12) (oi := { dst := some 40, op := Op.pick (Operand.tmp 31) (Operand.tmp 39) (Operand.const (Value.bool false)), type := 4, pos := "more.go:18", after := #[{ on := 3, ground := Ground.data }, { on := 11, ground := Ground.data }], guard := none }) (v := .bool true) rfl (by kernel_rfl) (by kernel_rfl) (by kernel_rfl) (fun _ _ _ h => h) (Or.inl ⟨by rfl, fun w hSw => by go_simp⟩) (by assumption) ?_
    try simp only [Act.put, List.setIfInBounds_toArray, List.set_cons_zero, List.set_cons_succ]
    refine wpAnyH_take (i := 13) (oi := { dst := some 6, op := Op.assign (Operand.tmp 40), type := 4, pos := "more.go:18", after := #[{ on := 12, ground := Ground.data }, { on := 7, ground := Ground.chain }, { on := 0, ground := Ground.phase }, { on := 1, ground := Ground.phase }, { on := 2, ground := Ground.phase }, { on := 3, ground := Ground.phase }, { on := 4, ground := Ground.phase }, { on := 5, ground := Ground.phase }, { on := 6, ground := Ground.phase }, { on := 7, ground := Ground.phase }, { on := 8, ground := Ground.phase }, { on := 9, ground := Ground.phase }, { on := 10, ground := Ground.phase }, { on := 11, ground := Ground.phase }, { on := 12, ground := Ground.phase }], guard := none }) (v := .bool true) rfl (by kernel_rfl) (by kernel_rfl) (by kernel_rfl) (fun _ _ _ h => h) (Or.inl ⟨by rfl, fun w hSw => by go_simp⟩) (by assumption) ?_
    try simp only [Act.put, List.setIfInBounds_toArray, List.set_cons_zero, List.set_cons_succ]
    refine wpAnyH_done (by kernel_rfl) ?_ _
    try unfold NoPanic
    have HD := Lib.hid hHeld
    clear hHeld
    go_wp2
    go_ret
    exact ⟨rfl, (H1.out.trans (HL3.out.b.mono H1.out.size)).trans (HD.out.mono (Nat.le_trans H1.out.size HL3.out.b.size))⟩
  · have hy2 : (y : Int) % 2 = 1 := by omega
    clear hy
    go_enter Tryz.func10, Tryz.ntmps10
    go_upto_region 6 with (first
      | (go_at_call 13; (with_reducible refine (awake_any w HT.out).mono ?_); rintro en wa ⟨rfl, hB⟩; have HA := Lib.hid (And.intro hB (Lk.tab_below HT.out hB h0)); clear hB)
      | (go_at_call 14; (with_reducible refine (HM.out _ HA.out.2).mono ?_); rintro en w2 ⟨q, w1, rfl, hB, hL⟩; have H1 := Lib.hid (HA.out.1.trans (hB.mono HA.out.1.size)); have HL := Lib.hid hL; clear hB hL HM)
      | (go_at_call 25; (with_reducible refine (own_call _).mono ?_); rintro en w3 ⟨z, rfl, hS, hR, B⟩; have HL3 := Lib.hid (HL.out.step B); obtain ⟨p0, p1, -⟩ := row2 hR; have hzl := (Array.getElem?_eq_some_iff.1 hR).1; clear hS hR B HL)
      | (go_at_call 15; (with_reducible refine (hear_22 (HL3.out.add #[.int .u8 3, .int .u64 0, .int .i64 0, .int .u32 201326592, .int .u8 24, .int .u16 (s : Int), .int .u16 (m : Int)] 32) (m0_met 96 96) (row_up w3 0 201326592 24 s m) HU.out rfl (by decide)).mono ?_); rintro en w4 ⟨rfl, hL⟩; have HL4 := Lib.hid hL; clear hL HL3)
      | (go_at_call 17; (with_reducible refine (select_lw HL4.out (HSO.out _)).mono ?_); rintro en w5 ⟨v', e', ts, rfl, hS, hL, hO, -⟩; rw [HUP.out] at hS; obtain rfl := sel_none hS rfl rfl rfl; obtain ⟨A3, lc, hv3, -, hc⟩ := hO.form (fun _ => rfl); obtain ⟨lb, hA, -, hlb, hcc⟩ := hc 0 (by decide); subst hA; have hv3 : v' = .slice (some ⟨lb, 0, none⟩) 1 lc := hv3; have HC : Hid (OWNC w5 lb) := Lib.hid ⟨hcc 0 (by decide), hcc 1 (by decide), hcc 2 (by decide), hcc 3 (by decide), hcc 4 (by decide)⟩; have HLB := Lib.hid hlb; have HL3 := Lib.hid hL; subst hv3; clear hS hL hO hc hcc hlb HL4))
    refine wp_region_noPanic ?_
    refine wp_region_held_drew (S := fun y : World => Below w5.heap.size w5 y) (by kernel_rfl) ((Below.refl _ _).drew) (fun hHeld => ?_)
    generalize w5.drew = wd at *
    refine wpAnyH_take (i := 0) (oi := { dst := some 28, op := Op.move (Operand.tmp 8), type := 37, pos := "more.go:18", after := #[], guard := none }) (v := .slice (some ⟨lb, 0, none⟩) 1 lc) rfl (by kernel_rfl) (by kernel_rfl) (by kernel_rfl) (fun _ _ _ h => h) (Or.inl ⟨by rfl, fun w hSw => by go_simp⟩) (by assumption) ?_
    try simp only [Act.put, List.setIfInBounds_toArray, List.set_cons_zero, List.set_cons_succ]
    refine wpAnyH_take (i := 1) (oi := { dst := some 29, op := Op.call { callee := Callee.builtin Builtin.len, args := #[Operand.tmp 28], argTypes := #[37] }, type := 3, pos := "more.go:18", after := #[{ on := 0, ground := Ground.data }], guard := none }) (v := .int .i64 (1 : Nat)) rfl (by kernel_rfl) (by kernel_rfl) (by kernel_rfl) (fun _ _ _ h => h) (Or.inl ⟨by rfl, fun w hSw => by go_simp⟩) (by assumption) ?_
    try simp only [Act.put, List.setIfInBounds_toArray, List.set_cons_zero, List.set_cons_succ]
    refine wpAnyH_take (i := 2) (oi := { dst := some 30, op := Op.binOp BinOp.eql 3 (Operand.tmp 29) (Operand.const (Value.int IntKind.i64 1)) 3, type := 4, pos := "more.go:18", after := #[{ on := 1, ground := Ground.data }], guard := none }) (v := .bool true) rfl (by kernel_rfl) (by kernel_rfl) (by kernel_rfl) (fun _ _ _ h => h) (Or.inl ⟨by rfl, fun w hSw => by go_simp⟩) (by assumption) ?_
    try simp only [Act.put, List.setIfInBounds_toArray, List.set_cons_zero, List.set_cons_succ]
    refine wpAnyH_take (i := 3) (oi := { dst := some 31, op := Op.move (Operand.tmp 30), type := 4, pos := "more.go:18", after := #[{ on := 2, ground := Ground.data }], guard := none }) (v := .bool true) rfl (by kernel_rfl) (by kernel_rfl) (by kernel_rfl) (fun _ _ _ h => h) (Or.inl ⟨by rfl, fun w hSw => by go_simp⟩) (by assumption) ?_
    try simp only [Act.put, List.setIfInBounds_toArray, List.set_cons_zero, List.set_cons_succ]
    refine wpAnyH_take (i := 4) (oi := { dst := some 32, op := Op.move (Operand.tmp 8), type := 37, pos := "more.go:18", after := #[{ on := 3, ground := Ground.guard }], guard := some (3, true) }) (v := .slice (some ⟨lb, 0, none⟩) 1 lc) rfl (by kernel_rfl) (by kernel_rfl) (by kernel_rfl) (fun _ _ _ h => h) (Or.inl ⟨by rfl, fun w hSw => by go_simp⟩) (by assumption) ?_
    try simp only [Act.put, List.setIfInBounds_toArray, List.set_cons_zero, List.set_cons_succ]
    refine wpAnyH_take (i := 5) (oi := { dst := some 33, op := Op.indexAddr 37 (Operand.tmp 32) (Operand.const (Value.int IntKind.i64 0)), type := 0, pos := "more.go:18", after := #[{ on := 4, ground := Ground.data }, { on := 3, ground := Ground.guard }], guard := some (3, true) }) (v := .pointer (some ⟨lb, 0, none⟩)) rfl (by kernel_rfl) (by kernel_rfl) (by kernel_rfl) (fun _ _ _ h => h) (Or.inl ⟨by rfl, fun w hSw => by go_simp⟩) (by assumption) ?_
    try simp only [Act.put, List.setIfInBounds_toArray, List.set_cons_zero, List.set_cons_succ]
    refine wpAnyH_take (i := 6) (oi := { dst := some 34, op := Op.load 40 (Operand.tmp 33), type := 40, pos := "more.go:18", after := #[{ on := 5, ground := Ground.data }, { on := 3, ground := Ground.guard }], guard := some (3, true) }) (v := .agg #[.int .u32 201326592, .int .u8 24, .int .i64 0, .int .u16 0, .int .u16 1]) rfl (by kernel_rfl) (by kernel_rfl) (by kernel_rfl) (fun _ _ _ h => h) (Or.inl ⟨by rfl, fun w hSw => by obtain ⟨k0, k1, k2, k3, k4⟩ := HC.out; have hb := Ser.bcell hSw; have hlt := Nat.lt_of_lt_of_le HLB.out hSw.size; rw [← hb.1 _ _ HLB.out] at k0 k1 k2 k3 k4; go_simp⟩) (by assumption) ?_
    try simp only [Act.put, List.setIfInBounds_toArray, List.set_cons_zero, List.set_cons_succ]
    refine wpAnyH_ready (rs := [7]) (by kernel_rfl) (by simp) ?_
    refine (AllReadyH.cons (o := { dst := some 35, op := Op.call { callee := Callee.value (Operand.func 25), args := #[], argTypes := #[] }, type := 64, pos := "more.go:18", after := #[{ on := 3, ground := Ground.chain }, { on := 3, ground := Ground.guard }], guard := some (3, true) }) rfl (fun K hK => ?_) AllReadyH.nil)
    have hct := own_call wd
    go_simp
    with_reducible refine hct.mono ?_
    rintro en wd2 ⟨z, rfl, hO, hOR, B3⟩
    have HO := Lib.hid hOR
    refine hK.out _ _ (hHeld.trans (B3.mono hHeld.size)) (fun hHeld2 => ?_)
    clear hK K hHeld
    have hHeld := hHeld2
    clear hHeld2
    try simp only [Act.put, List.setIfInBounds_toArray, List.set_cons_zero, List.set_cons_succ]
    clear hct hO hOR B3
    generalize wd2 = wd at *
    refine wpAnyH_take (i := 8) (oi := { dst := some 36, op := Op.indexAddr 64 (Operand.tmp 35) (Operand.const (Value.int IntKind.i64 0)), type := 0, pos := "more.go:18", after := #[{ on := 7, ground := Ground.data }, { on := 3, ground := Ground.guard }], guard := some (3, true) }) (v := .pointer (some ⟨z, 0, none⟩)) rfl (by kernel_rfl) (by kernel_rfl) (by kernel_rfl) (fun _ _ _ h => h) (Or.inl ⟨by rfl, fun w hSw => by go_simp⟩) (by assumption) ?_
    try simp only [Act.put, List.setIfInBounds_toArray, List.set_cons_zero, List.set_cons_succ]
    refine wpAnyH_ready (rs := [9]) (by kernel_rfl) (by simp) ?_
    refine (AllReadyH.cons (o := { dst := some 37, op := Op.load 30 (Operand.tmp 36), type := 30, pos := "more.go:18", after := #[{ on := 8, ground := Ground.data }, { on := 3, ground := Ground.guard }], guard := some (3, true) }) rfl (fun K hK => ?_) AllReadyH.nil)
    obtain ⟨p0, p1, -⟩ := row2 HO.out
    have hzl := (Array.getElem?_eq_some_iff.1 HO.out).1
    go_simp
    refine hK.out _ _ (hHeld) (fun hHeld2 => ?_)
    clear hK K hHeld
    have hHeld := hHeld2
    clear hHeld2
    try simp only [Act.put, List.setIfInBounds_toArray, List.set_cons_zero, List.set_cons_succ]
    refine wpAnyH_take (i := 10) (oi := { dst := some 38, op := Op.build 40 #[(0, Operand.tmp 37), (1, Operand.const (Value.int IntKind.i64 0)), (2, Operand.const (Value.int IntKind.u16 0)), (3, Operand.const (Value.int IntKind.u16 1))], type := 40, pos := "more.go:18", after := #[{ on := 9, ground := Ground.data }, { on := 3, ground := Ground.guard }], guard := some (3, true) }) (v := .agg #[.int .u32 201326592, .int .u8 24, .int .i64 0, .int .u16 0, .int .u16 1]) rfl (by kernel_rfl) (by kernel_rfl) (by kernel_rfl) (fun _ _ _ h => h) (Or.inl ⟨by rfl, fun w hSw => by go_simp⟩) (by assumption) ?_
    try simp only [Act.put, List.setIfInBounds_toArray, List.set_cons_zero, List.set_cons_succ]
    refine wpAnyH_take (i := 11) (oi := { dst := some 39, op := Op.binOp BinOp.eql 40 (Operand.tmp 34) (Operand.tmp 38) 40, type := 4, pos := "more.go:18", after := #[{ on := 6, ground := Ground.data }, { on := 10, ground := Ground.data }, { on := 3, ground := Ground.guard }], guard := some (3, true) }) (v := .bool true) rfl (by kernel_rfl) (by kernel_rfl) (by kernel_rfl) (fun _ _ _ h => h) (Or.inl ⟨by rfl, fun w hSw => by go_simp⟩) (by assumption) ?_
    try simp only [Act.put, List.setIfInBounds_toArray, List.set_cons_zero, List.set_cons_succ]
    refine wpAnyH_take (i := 12) (oi := { dst := some 40, op := Op.pick (Operand.tmp 31) (Operand.tmp 39) (Operand.const (Value.bool false)), type := 4, pos := "more.go:18", after := #[{ on := 3, ground := Ground.data }, { on := 11, ground := Ground.data }], guard := none }) (v := .bool true) rfl (by kernel_rfl) (by kernel_rfl) (by kernel_rfl) (fun _ _ _ h => h) (Or.inl ⟨by rfl, fun w hSw => by go_simp⟩) (by assumption) ?_
    try simp only [Act.put, List.setIfInBounds_toArray, List.set_cons_zero, List.set_cons_succ]
    refine wpAnyH_take (i := 13) (oi := { dst := some 6, op := Op.assign (Operand.tmp 40), type := 4, pos := "more.go:18", after := #[{ on := 12, ground := Ground.data }, { on := 7, ground := Ground.chain }, { on := 0, ground := Ground.phase }, { on := 1, ground := Ground.phase }, { on := 2, ground := Ground.phase }, { on := 3, ground := Ground.phase }, { on := 4, ground := Ground.phase }, { on := 5, ground := Ground.phase }, { on := 6, ground := Ground.phase }, { on := 7, ground := Ground.phase }, { on := 8, ground := Ground.phase }, { on := 9, ground := Ground.phase }, { on := 10, ground := Ground.phase }, { on := 11, ground := Ground.phase }, { on := 12, ground := Ground.phase }], guard := none }) (v := .bool true) rfl (by kernel_rfl) (by kernel_rfl) (by kernel_rfl) (fun _ _ _ h => h) (Or.inl ⟨by rfl, fun w hSw => by go_simp⟩) (by assumption) ?_
    try simp only [Act.put, List.setIfInBounds_toArray, List.set_cons_zero, List.set_cons_succ]
    refine wpAnyH_done (by kernel_rfl) ?_ _
    try unfold NoPanic
    have HD := Lib.hid hHeld
    clear hHeld
    go_wp2
    go_ret
    exact ⟨rfl, (H1.out.trans (HL3.out.b.mono H1.out.size)).trans (HD.out.mono (Nat.le_trans H1.out.size HL3.out.b.size))⟩

set_option maxRecDepth 100000 in
theorem lifted (os : Os) (started : os.Started) (H : Type) (enc : TypeId × Value → H) :
    ReturnsInHanded {} Tryz.checked os 10 .any (fun w args => (Rows.engineKeepsSpec.pre enc Tryz.prog Tryz.f10 Rows.engineKeepsRow.domain false w args ∧ laidMet Tryz.prog Rows.engineKeepsRow.laid w) ∧ sizedMet enc Tryz.prog Tryz.f10 (OpenSpec.ofChange Rows.engineKeepsSpec) false w args)
      (Rows.engineKeepsSpec.post enc Tryz.prog Tryz.f10 false true false false) := by
  refine returnsInHanded_of_change_and (C := Tryz.checked) (X := fun w _ => laidMet Tryz.prog Rows.engineKeepsRow.laid w) (fun _ _ _ hh h => h.of_heap hh) own started (by kernel_rfl) Tryz.func10
    (ChangeSpec.witness_at (enc := enc) (C := Tryz.checked) (os := os) (X := fun w _ => laidMet Tryz.prog Rows.engineKeepsRow.laid w) false (laidWorld os) #[.int .u16 0, .int .u16 0, .int .u8 0] 8 rfl (by kernel_rfl) (by kernel_rfl) (by kernel_rfl) (by kernel_rfl) (by kernel_rfl) (laid_met os _)) ?_
  intro W base args ds gs before hval0 hW hcnd _ hL _
  have hval : ∀ (j : Nat) t v, Tryz.f10.params[j]? = some t → args[j]? = some v → Value.okWide Tryz.prog W .any base t v := hval0
  have hW' := hW
  obtain ⟨p, q, hA0, hV, rfl, hfz, hnd⟩ := hW
  have hA : DataW.TrodAll enc Tryz.prog W 0 (fun _ => true) true Tryz.f10.params.toList args.toList ds p := hA0
  rw [Tryz.params10] at hA hval
  obtain ⟨v0, vs0, d0, ds0, p0, q0, hargs, rfl, rfl, h0, r0⟩ := trodAll_cons hA
  obtain ⟨v1, vs1, d1, ds1, p1, q1, rfl, rfl, rfl, h1, r1⟩ := trodAll_cons r0
  obtain ⟨v2, vs2, d2, ds2, p2, q2, rfl, rfl, rfl, h2, r2⟩ := trodAll_cons r1
  obtain ⟨rfl, rfl, rfl⟩ := trodAll_nil r2
  obtain rfl : args = #[v0, v1, v2] := by cases args; simp_all
  obtain ⟨rfl, rfl⟩ := trodVars_none hV
  obtain ⟨a0, rfl, rfl, rfl, w0⟩ := open_int Tryz.underlying22 (hval 0 22 v0 rfl rfl) h0
  obtain ⟨a1, rfl, rfl, rfl, w1⟩ := open_int Tryz.underlying22 (hval 1 22 v1 rfl rfl) h1
  obtain ⟨a2, rfl, rfl, rfl, w2⟩ := open_int Tryz.underlying5 (hval 2 5 v2 rfl rfl) h2
  clear hA0 hval0
  refine (walk a0 a1 a2 W w0 w1 w2 (Lk.tab_of_laid hL)).mono fun e W' ⟨he, bel⟩ => ?_
  subst he
  exact ⟨_, rfl, _, _, _, [], _, [], hW', trodAll_mk1 (shut_bool Tryz.underlying4 _), (trodAll_cons_mk (shut_int Tryz.underlying22 w0) (trodAll_cons_mk (shut_int Tryz.underlying22 w1) (trodAll_cons_mk (shut_int Tryz.underlying5 w2) trodAll_mk0))), rfl, bel.frame _, fun h => by cases h⟩

theorem over : Rows.engineKeepsRow.holds Tryz.pinned (OpenSpec.ofChange Rows.engineKeepsSpec) :=
  OpenClaim.holds_of_wide 10 Tryz.f10 rfl rfl rfl rfl rfl rfl rfl ⟨rfl, rfl, rfl, rfl, rfl⟩ rfl rfl rfl rfl rfl (by kernel_rfl) Tryz.func10 (by kernel_rfl)
    (of_decide_eq_true (by kernel_rfl)) (by unfold Func.isWrapper; first | (rw [if_pos (by decide +kernel)]; kernel_rfl) | (rw [if_neg (by decide +kernel)]; exact ⟨rfl, rfl⟩))
    (fun os started H enc _ => lifted os started H enc)

theorem proved : Rows.EngineKeepsCardSaid :=
  Claim7.holds_tied_plain_at .later [] [.data] true (true, "73430b27a30ada73018fe7c3192a9fa6d4b7bfc394d4113e0a57e1736d749f34") false
    over (fun _ h => by cases h) (by kernel_rfl) (fun _ h => by cases h) engineKeeps_row_tie rfl ⟨rfl, rfl⟩ (by kernel_rfl) rfl
    (fun f fn hf hfn => by
      obtain rfl : f = 10 := Option.some.inj ((show Tryz.prog.funcNamed "milestone/milestonelaw17.EngineKeeps" = some 10 by kernel_rfl).symm.trans hf) |>.symm
      obtain rfl : fn = Tryz.f10 := (Option.some.inj (Tryz.func10.symm.trans hfn)).symm
      exact ⟨by kernel_rfl, fun j t ht => by
        rw [Tryz.params10] at ht
        have hm : t ∈ [22, 22, 5] := by simpa using Array.mem_of_getElem? ht
        have hall : ([22, 22, 5].all fun u => !Tryz.prog.wantsStandIn u) = true := by kernel_rfl
        exact (show Tryz.prog.wantsStandIn t = false by simpa using List.all_eq_true.1 hall t hm)⟩)
    (by kernel_rfl)
#print axioms proved
end Go.Proofs.YtjbogjbopgcbhaaGreatDoor.engineKeeps
