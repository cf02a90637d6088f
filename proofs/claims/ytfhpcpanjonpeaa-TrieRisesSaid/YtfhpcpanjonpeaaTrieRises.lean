/-
  'For every input the Go function milestonelaw09.TrieRises returns true, and each argument reads behind the call as it read before.'
  Conditions: none but the row's own (linux/amd64, sizes of what is read within the address space).
-/
import Derived.Test.YtfhpcpanjonpeaaRows
import Derived.WalkKit
import Derived.ProofKit
import Derived.OpenShut
import Derived.ShutString
import Derived.ChangeOld
import Derived.Below
import Derived.Lib.SmallJoins
import Derived.Lib.Hide
import Derived.Test.YtfhpcpanjonpeaaTh
import Derived.Test.YtfhpcpanjonpeaaTe
import Derived.Deep.DeepCutAuto
import Derived.Deep.CutBlock
import Derived.Deep.RegionHeld3
import Derived.BigQuiet
namespace Go.Proofs.Ytfhpcpanjonpeaa.trieRises
open Tri
open Pre
open Go.ChangeShapes Go.WideShapes Go.ChangeAt Go.RowKit
open Go.ChangeMaps (open_string shut_string)
set_option linter.unusedVariables false

theorem own : ownKnob Try.prog.godebug = none := by kernel_rfl
theorem laidOut : laidOutB Try.prog = true := by kernel_rfl

set_option maxRecDepth 8000 in
set_option maxHeartbeats 8000000 in
theorem walk (a0 : Option Addr) (len0 cap0 : Nat) (z0 : List ActD) (w : World) (w0 : IsActs w a0 len0 cap0 z0) :
    Calls Try.prog 4 #[.slice a0 len0 cap0] w fun e w' => e = .returned (.bool true) ∧ Below w.heap.size w w' := by
  obtain ⟨hl1, hl2, hl3, HA, hnil⟩ := w0
  unfold maxLen at hl3
  by_cases h2 : 60 < len0
  · have h2' : (60 : Int) < len0 := by omega
    clear h2 hl1 HA
    go_enter Try.func4, Try.ntmps4
    go_wp2_with fail
    refine (awake_any _).mono ?_
    rintro e w1 ⟨rfl, h1⟩
    go_wp2_with fail
    refine (awake_any _).mono ?_
    rintro e w2 ⟨rfl, h2⟩
    go_wp2_with fail
    go_ret
    exact ⟨rfl, h1.trans (h2.mono h1.size)⟩
  have h2' : ¬ (60 : Int) < len0 := by omega
  have hl60 : len0 ≤ 60 := by omega
  have HL := Lib.hid hl1
  clear h2 hl1
  go_enter Try.func4, Try.ntmps4
  go_upto_region 3 with (first
    | (go_at_call 7; refine (awake_any _).mono ?_; rintro e wz ⟨rfl, B0⟩))
  have HS := Lib.hid (HA.below B0)
  have HOK := Lib.hid (rtl_ok z0 HA.oks)
  have HRL := Lib.hid (show (rtl z0).length = len0 by rw [rtl_len, ← HL.out])
  have HW := Lib.hid B0
  clear HA B0
  go_upto_block 0 with (fail)
  go_cut [3] (fun v3 wx => Hid (RtOwn wx wz.heap.size v3 (rtl z0) ∧ Below wz.heap.size wz wx))
  case first =>
    go_wp2
    go_loopw [3, 4] (fun v3 i wr => ∃ k : Nat, k ≤ len0 ∧ i = .int .i64 k ∧ Hid (RtOwn wr wz.heap.size v3 ((rtl z0).take k) ∧ Below wz.heap.size wz wr)) (fun _ i _ => len0 - (intOf i).toNat)
    case atStart => exact ⟨0, by omega, rfl, Lib.hid ⟨RtOwn.nil _ _, Below.refl _ _⟩⟩
    case round =>
      obtain ⟨k, hk, rfl, HR⟩ := hrel
      by_cases hlt : k < len0
      · have hkz : Hid (k < z0.length) := Lib.hid (by rw [← HL.out]; exact hlt)
        have hkr : Hid (k < (rtl z0).length) := Lib.hid (by rw [HRL.out]; exact hlt)
        obtain ⟨b0, o0, ea, hb0, hc⟩ := HS.out k hkz.out
        subst ea
        replace hc := hc.keep (HR.out.2.block b0 hb0)
        have hrk := rtl_get z0 k hkz.out
        rw [getD_of hkr.out] at hrk
        obtain ⟨d, hd⟩ : ∃ d, d = z0[k]'(hkz.out) := ⟨_, rfl⟩
        rw [← hd] at hc hrk
        have c8 := fun W => place_any d hc.ok W
        obtain ⟨k0, k1, k2, k3, _⟩ := hc
        obtain ⟨X, hX⟩ : ∃ X, X = d.pa := ⟨_, rfl⟩
        obtain ⟨Y, hY⟩ : ∃ Y, Y = d.pk := ⟨_, rfl⟩
        rw [← hX, ← hY] at c8 hrk
        have HK := Lib.hid hrk
        obtain ⟨A1, c1, hv1, _⟩ := HR.out.1.form
        rw [List.length_take, Nat.min_eq_left (by rw [HRL.out]; omega)] at hv1
        have HR1 := Lib.hid HR.out.1
        have HR2 := Lib.hid HR.out.2
        clear hX hY hd hrk HR
        subst hv1
        have hlt40 : ((rtl z0).take k).length ≤ 100000 := by rw [List.length_take]; omega
        have HLT := Lib.hid hlt40
        clear hlt40
        go_wp2_with (first
          | (go_at_call 8; (with_reducible refine (c8 _).mono ?_); rintro e w2 ⟨rfl, B2⟩; have HB2 := Lib.hid B2; clear B2 c8)
          | (at_builtin; (with_reducible refine app_rt rfl (.tmp 25) (.tmp 33) rfl wz.heap.size (.slice A1 k c1) ((rtl z0).take k) ⟨X, Y, (k : Int), 0, 0⟩ w2.heap.size rfl rfl ((HR1.out.kept HB2.out).kept ((Below.refl _ _).alloc (Nat.le_refl _) _)) (heap_alloc_new w2 _) HLT.out (by have h5 := HR2.out.size; have h6 := HB2.out.size; simp; omega) ?_)))
        intro v4 w4 O4 G4 B4
        have hne : (rtl z0).take k ++ [⟨X, Y, (k : Int), 0, 0⟩] = (rtl z0).take (k + 1) := by rw [take_more hkr.out, HK.out]
        rw [hne] at O4
        have HX := Lib.hid (And.intro O4 ((HR2.out.trans ((HB2.out.trans ((Below.refl w2.heap.size w2).alloc (Nat.le_refl _) (.cells #[.int .u32 (X : Int), .int .u8 (Y : Int), .int .i64 (k : Int), .int .u16 0, .int .u16 0] 39) |>.mono HB2.out.size)).mono HR2.out.size)).trans B4))
        clear O4 G4 B4 hne
        go_wp2
        go_roundw
        case rel => exact ⟨k + 1, by omega, by go_num, HX⟩
        case measure => simp [intOf]; omega
      · obtain rfl : k = len0 := by omega
        go_wp2
        go_meet
        case rel => exact Lib.hid ⟨by have h := HR.out.1; rwa [List.take_of_length_le (by rw [HRL.out]; exact Nat.le_refl _)] at h, HR.out.2⟩
  case rest =>
    have HO := hcut
    clear hcut
    obtain ⟨A3, c3, hv3, S3⟩ := HO.out.1.form
    rw [HRL.out] at hv3
    have HB1 := Lib.hid HO.out.2
    have HS3 := Lib.hid S3
    clear HO S3
    subst hv3
    have c16 := Of_any wc A3 len0 c3 (rtl z0) HRL.out.symm (by omega) HS3.out HOK.out
    have hwf := puts_wf HOK.out len0 (by rw [HRL.out]; exact Nat.le_refl _)
    have hpl := puts_len (rtl z0) len0
    have hple := puts_le (rtl z0) len0
    have hlast := fun y hy => puts_last HOK.out len0 (by rw [HRL.out]; exact Nat.le_refl _) y hy
    have hhas := fun j hj => puts_has HOK.out len0 (by rw [HRL.out]; exact Nat.le_refl _) j hj
    obtain ⟨t, ht⟩ : ∃ t, t = (puts (rtl z0) len0).1 := ⟨_, rfl⟩
    obtain ⟨c, hc⟩ : ∃ c, c = (puts (rtl z0) len0).2 := ⟨_, rfl⟩
    rw [← ht] at c16 hwf hpl hlast hhas
    rw [← hc] at c16 hpl hple
    have HWF := Lib.hid (And.intro hwf (And.intro hlast hhas))
    have HPL := Lib.hid hpl
    clear ht hc hwf hpl hlast hhas
    go_upto_region 9 with (first
      | (go_at_call 16; (with_reducible refine c16.mono ?_); rintro e w1 ⟨g, bs, rfl, T1, hb1, B1⟩; clear c16 hb1))
    have c17 := All_any T1 (by rw [HPL.out]; omega)
    have HT1 := Lib.hid T1
    have HB2 := Lib.hid B1
    clear T1 B1
    go_upto_region 10 with (first
      | (go_at_call 17; (with_reducible refine c17.mono ?_); rintro e w2 ⟨v6, rfl, O6, B2⟩; clear c17; obtain ⟨A6, c6, hv6, S6⟩ := O6.form; rw [HPL.out] at hv6; subst hv6; have HS6 := Lib.hid S6; have HB3 := Lib.hid (HB2.out.trans (B2.mono HB2.out.size)); have c12 := len_any (HT1.out.below B2); clear O6 S6 B2))
    go_upto_region 12 with (first
      | (go_at_call 12; (with_reducible refine c12.mono ?_); rintro e w4 ⟨rfl, hw4⟩; rw [← hw4]; clear hw4 w4 c12))
    have HS3 := Lib.hid (HS3.out.below HB3.out)
    have HBW := Lib.hid (HB1.out.trans (HB3.out.mono HB1.out.size))
    clear HB1 HB2 HB3 HT1
    go_wp2
    go_loopw [7] (fun i wr => ∃ k : Nat, k ≤ c ∧ i = .int .i64 k ∧ Hid (Below w2.heap.size w2 wr)) (fun i _ => c - (intOf i).toNat)
    case atStart => exact ⟨0, by omega, rfl, Lib.hid (Below.refl _ _)⟩
    case round =>
      obtain ⟨i, hi, rfl, HR⟩ := hrel
      by_cases hlt : i < c
      · have hil : Hid (i < t.list.length) := Lib.hid (by rw [HPL.out]; exact hlt)
        obtain ⟨b6, o6, ea, hb6, hcy⟩ := HS6.out i hil.out
        subst ea
        obtain ⟨y, hy⟩ : ∃ y, y = t.list[i]'(hil.out) := ⟨_, rfl⟩
        rw [← hy] at hcy
        have hym : t.Mem y := by rw [hy]; exact list_mem.1 (List.getElem_mem _)
        obtain ⟨j, hj⟩ := HWF.out.2.1 y hym
        have HJ := Lib.hid hj
        have HYM := Lib.hid (And.intro hym hy)
        have HY := Lib.hid (And.intro (hcy.keep (HR.out.block b6 hb6)) (Nat.lt_of_lt_of_le hb6 HR.out.size))
        have HY2 := Lib.hid (And.intro hcy hb6)
        clear hj hym hy hcy hb6
        go_upto_region 15 with (fail)
        go_cut [66] (fun v66 wx => v66 = .bool false ∧ Hid (Below w2.heap.size w2 wx))
        case first =>
          by_cases h0 : i = 0
          · subst h0
            go_quiet (fail)
            go_wp2
            go_meet
            case rel => exact ⟨rfl, Lib.hid (bN HR.out)⟩
          · have h1 : (0 : Int) < i := by omega
            have h1n : 0 < i := by omega
            have hi1 : IntKind.i64.wrap ((i : Int) - 1) = ((i - 1 : Nat) : Int) := by rw [IntKind.wrap_i64]; omega
            have hxl : Hid (i - 1 < t.list.length) := Lib.hid (by have := hil.out; omega)
            obtain ⟨b6', o6', ea, hb6, hcx⟩ := HS6.out (i - 1) hxl.out
            injection ea with ea
            injection ea with ea1 ea2
            subst ea1 ea2
            have hah := list_ahead HWF.out.1 i (by omega) hil.out
            obtain ⟨x, hx⟩ : ∃ x, x = t.list[i - 1]'(hxl.out) := ⟨_, rfl⟩
            rw [← hx] at hcx
            have hah2 : (decide (x.a < y.a) || (x.a == y.a && decide (x.n < y.n))) = true := by rw [hx, HYM.out.2]; exact hah
            have c18 := fun W => ahead_any x.a x.n y.a y.n W
            rw [hah2] at c18
            have HX := Lib.hid (And.intro (hcx.keep (HR.out.block b6 hb6)) (Nat.lt_of_lt_of_le hb6 HR.out.size))
            have hi8 : ((i - 1 : Nat) : Int) < c := by omega
            have hi9 : ¬ c ≤ i - 1 := by omega
            clear hx hcx hah hah2
            refine wp_region_noPanic ?_
            refine wp_region_held_drew (S := fun W : World => Below wr.heap.size wr W) (by kernel_rfl) ((Below.refl _ _).drew) (fun hHeld => ?_)
            generalize wr.drew = wd at *
            refine wpAnyH_take (i := 0) (oi := { dst := some 50, op := Op.move (Operand.tmp 7), type := 3, pos := "law.go:125", after := #[], guard := none }) (v := .int .i64 (i : Int)) rfl (by kernel_rfl) (by kernel_rfl) (by kernel_rfl) (fun _ _ _ h => h) (Or.inl ⟨by rfl, fun w hSw => by go_simp⟩) (by assumption) ?_
            try simp only [Act.put, List.setIfInBounds_toArray, List.set_cons_zero, List.set_cons_succ]
            refine wpAnyH_take (i := 1) (oi := { dst := some 51, op := Op.binOp BinOp.gtr 3 (Operand.tmp 50) (Operand.const (Value.int IntKind.i64 0)) 3, type := 4, pos := "law.go:125", after := #[{ on := 0, ground := Ground.data }], guard := none }) (v := .bool true) rfl (by kernel_rfl) (by kernel_rfl) (by kernel_rfl) (fun _ _ _ h => h) (Or.inl ⟨by rfl, fun w hSw => by go_simp⟩) (by assumption) ?_
            try simp only [Act.put, List.setIfInBounds_toArray, List.set_cons_zero, List.set_cons_succ]
            refine wpAnyH_take (i := 2) (oi := { dst := some 52, op := Op.move (Operand.tmp 51), type := 4, pos := "law.go:125", after := #[{ on := 1, ground := Ground.data }], guard := none }) (v := .bool true) rfl (by kernel_rfl) (by kernel_rfl) (by kernel_rfl) (fun _ _ _ h => h) (Or.inl ⟨by rfl, fun w hSw => by go_simp⟩) (by assumption) ?_
            try simp only [Act.put, List.setIfInBounds_toArray, List.set_cons_zero, List.set_cons_succ]
            refine wpAnyH_take (i := 3) (oi := { dst := some 53, op := Op.move (Operand.tmp 6), type := 29, pos := "law.go:125", after := #[{ on := 2, ground := Ground.guard }], guard := some (2, true) }) (v := .slice (some ⟨b6, o6, none⟩) c c6) rfl (by kernel_rfl) (by kernel_rfl) (by kernel_rfl) (fun _ _ _ h => h) (Or.inl ⟨by rfl, fun w hSw => by go_simp⟩) (by assumption) ?_
            try simp only [Act.put, List.setIfInBounds_toArray, List.set_cons_zero, List.set_cons_succ]
            refine wpAnyH_take (i := 4) (oi := { dst := some 54, op := Op.move (Operand.tmp 7), type := 3, pos := "law.go:125", after := #[{ on := 2, ground := Ground.guard }], guard := some (2, true) }) (v := .int .i64 (i : Int)) rfl (by kernel_rfl) (by kernel_rfl) (by kernel_rfl) (fun _ _ _ h => h) (Or.inl ⟨by rfl, fun w hSw => by go_simp⟩) (by assumption) ?_
            try simp only [Act.put, List.setIfInBounds_toArray, List.set_cons_zero, List.set_cons_succ]
            refine wpAnyH_take (i := 5) (oi := { dst := some 55, op := Op.binOp BinOp.sub 3 (Operand.tmp 54) (Operand.const (Value.int IntKind.i64 1)) 3, type := 3, pos := "law.go:125", after := #[{ on := 4, ground := Ground.data }, { on := 2, ground := Ground.guard }], guard := some (2, true) }) (v := .int .i64 ((i - 1 : Nat) : Int)) rfl (by kernel_rfl) (by kernel_rfl) (by kernel_rfl) (fun _ _ _ h => h) (Or.inl ⟨by rfl, fun w hSw => by have hz := hi1; go_simp⟩) (by assumption) ?_
            try simp only [Act.put, List.setIfInBounds_toArray, List.set_cons_zero, List.set_cons_succ]
            refine wpAnyH_take (i := 6) (oi := { dst := some 56, op := Op.indexAddr 29 (Operand.tmp 53) (Operand.tmp 55), type := 0, pos := "law.go:125", after := #[{ on := 3, ground := Ground.data }, { on := 5, ground := Ground.data }, { on := 2, ground := Ground.guard }], guard := some (2, true) }) (v := .pointer (some ⟨b6, o6 + (i - 1) * 5, none⟩)) rfl (by kernel_rfl) (by kernel_rfl) (by kernel_rfl) (fun _ _ _ h => h) (Or.inl ⟨by rfl, fun w hSw => by go_simp⟩) (by assumption) ?_
            try simp only [Act.put, List.setIfInBounds_toArray, List.set_cons_zero, List.set_cons_succ]
            refine wpAnyH_take (i := 7) (oi := { dst := some 57, op := Op.fieldAddr 39 (Operand.tmp 56) 0, type := 0, pos := "law.go:125", after := #[{ on := 6, ground := Ground.data }, { on := 2, ground := Ground.guard }], guard := some (2, true) }) (v := .pointer (some ⟨b6, o6 + (i - 1) * 5, none⟩)) rfl (by kernel_rfl) (by kernel_rfl) (by kernel_rfl) (fun _ _ _ h => h) (Or.inl ⟨by rfl, fun w hSw => by go_simp⟩) (by assumption) ?_
            try simp only [Act.put, List.setIfInBounds_toArray, List.set_cons_zero, List.set_cons_succ]
            refine wpAnyH_take (i := 8) (oi := { dst := some 58, op := Op.load 32 (Operand.tmp 57), type := 32, pos := "law.go:125", after := #[{ on := 7, ground := Ground.data }, { on := 2, ground := Ground.guard }], guard := some (2, true) }) (v := .agg #[.int .u32 (x.a : Int), .int .u8 (x.n : Int)]) rfl (by kernel_rfl) (by kernel_rfl) (by kernel_rfl) (fun _ _ _ h => h) (Or.inl ⟨by rfl, fun w hSw => by obtain ⟨q0, q1, q2, q3, q4⟩ := HX.out.1.keep (hSw.block b6 HX.out.2); go_simp⟩) (by assumption) ?_
            try simp only [Act.put, List.setIfInBounds_toArray, List.set_cons_zero, List.set_cons_succ]
            refine wpAnyH_take (i := 9) (oi := { dst := some 59, op := Op.move (Operand.tmp 6), type := 29, pos := "law.go:125", after := #[{ on := 2, ground := Ground.guard }], guard := some (2, true) }) (v := .slice (some ⟨b6, o6, none⟩) c c6) rfl (by kernel_rfl) (by kernel_rfl) (by kernel_rfl) (fun _ _ _ h => h) (Or.inl ⟨by rfl, fun w hSw => by go_simp⟩) (by assumption) ?_
            try simp only [Act.put, List.setIfInBounds_toArray, List.set_cons_zero, List.set_cons_succ]
            refine wpAnyH_take (i := 10) (oi := { dst := some 60, op := Op.move (Operand.tmp 7), type := 3, pos := "law.go:125", after := #[{ on := 2, ground := Ground.guard }], guard := some (2, true) }) (v := .int .i64 (i : Int)) rfl (by kernel_rfl) (by kernel_rfl) (by kernel_rfl) (fun _ _ _ h => h) (Or.inl ⟨by rfl, fun w hSw => by go_simp⟩) (by assumption) ?_
            try simp only [Act.put, List.setIfInBounds_toArray, List.set_cons_zero, List.set_cons_succ]
            refine wpAnyH_take (i := 11) (oi := { dst := some 61, op := Op.indexAddr 29 (Operand.tmp 59) (Operand.tmp 60), type := 0, pos := "law.go:125", after := #[{ on := 9, ground := Ground.data }, { on := 10, ground := Ground.data }, { on := 2, ground := Ground.guard }], guard := some (2, true) }) (v := .pointer (some ⟨b6, o6 + i * 5, none⟩)) rfl (by kernel_rfl) (by kernel_rfl) (by kernel_rfl) (fun _ _ _ h => h) (Or.inl ⟨by rfl, fun w hSw => by go_simp⟩) (by assumption) ?_
            try simp only [Act.put, List.setIfInBounds_toArray, List.set_cons_zero, List.set_cons_succ]
            refine wpAnyH_take (i := 12) (oi := { dst := some 62, op := Op.fieldAddr 39 (Operand.tmp 61) 0, type := 0, pos := "law.go:125", after := #[{ on := 11, ground := Ground.data }, { on := 2, ground := Ground.guard }], guard := some (2, true) }) (v := .pointer (some ⟨b6, o6 + i * 5, none⟩)) rfl (by kernel_rfl) (by kernel_rfl) (by kernel_rfl) (fun _ _ _ h => h) (Or.inl ⟨by rfl, fun w hSw => by go_simp⟩) (by assumption) ?_
            try simp only [Act.put, List.setIfInBounds_toArray, List.set_cons_zero, List.set_cons_succ]
            refine wpAnyH_take (i := 13) (oi := { dst := some 63, op := Op.load 32 (Operand.tmp 62), type := 32, pos := "law.go:125", after := #[{ on := 12, ground := Ground.data }, { on := 2, ground := Ground.guard }], guard := some (2, true) }) (v := .agg #[.int .u32 (y.a : Int), .int .u8 (y.n : Int)]) rfl (by kernel_rfl) (by kernel_rfl) (by kernel_rfl) (fun _ _ _ h => h) (Or.inl ⟨by rfl, fun w hSw => by obtain ⟨q0, q1, q2, q3, q4⟩ := HY.out.1.keep (hSw.block b6 HY.out.2); go_simp⟩) (by assumption) ?_
            try simp only [Act.put, List.setIfInBounds_toArray, List.set_cons_zero, List.set_cons_succ]
            refine wpAnyH_ready (rs := [14]) (by kernel_rfl) (by simp) ?_
            refine AllReadyH.cons (o := { dst := some 64, op := Op.call { callee := Callee.value (Operand.func 18), args := #[Operand.tmp 58, Operand.tmp 63], argTypes := #[32, 32] }, type := 4, pos := "law.go:125", after := #[{ on := 8, ground := Ground.data }, { on := 13, ground := Ground.data }, { on := 2, ground := Ground.chain }, { on := 2, ground := Ground.guard }], guard := some (2, true) }) rfl (fun K hK => ?_) AllReadyH.nil
            go_simp
            with_reducible refine (c18 _).mono ?_
            rintro e w5 ⟨rfl, B5⟩
            refine hK.out _ _ (hHeld.trans (B5.mono hHeld.size)) (fun hHeld => ?_)
            clear hK K
            try simp only [Act.put, List.setIfInBounds_toArray, List.set_cons_zero, List.set_cons_succ]
            refine wpAnyH_take (i := 15) (oi := { dst := some 65, op := Op.unOp UnOp.not 4 (Operand.tmp 64), type := 4, pos := "law.go:125", after := #[{ on := 14, ground := Ground.data }, { on := 2, ground := Ground.guard }], guard := some (2, true) }) (v := .bool false) rfl (by kernel_rfl) (by kernel_rfl) (by kernel_rfl) (fun _ _ _ h => h) (Or.inl ⟨by rfl, fun w hSw => by go_simp⟩) (by assumption) ?_
            try simp only [Act.put, List.setIfInBounds_toArray, List.set_cons_zero, List.set_cons_succ]
            refine wpAnyH_take (i := 16) (oi := { dst := some 66, op := Op.pick (Operand.tmp 52) (Operand.tmp 65) (Operand.const (Value.bool false)), type := 4, pos := "law.go:125", after := #[{ on := 2, ground := Ground.data }, { on := 15, ground := Ground.data }], guard := none }) (v := .bool false) rfl (by kernel_rfl) (by kernel_rfl) (by kernel_rfl) (fun _ _ _ h => h) (Or.inl ⟨by rfl, fun w hSw => by go_simp⟩) (by assumption) ?_
            try simp only [Act.put, List.setIfInBounds_toArray, List.set_cons_zero, List.set_cons_succ]
            refine wpAnyH_done (by kernel_rfl) ?_ _
            try unfold NoPanic
            go_wp2
            go_meet
            case rel => exact ⟨rfl, Lib.hid (HR.out.trans (hHeld.mono HR.out.size))⟩
        case rest =>
          obtain ⟨rfl, HR⟩ := hcut
          go_upto_block 4 with (fail)
          generalize wc = wr at *
          go_cut [8] (fun v8 wx => v8 = .int .i64 (j : Int) ∧ Hid (Below w2.heap.size w2 wx))
          case first =>
            go_wp2
            go_loopw [8, 9] (fun v8 v9 wk => ∃ k : Nat, k ≤ len0 ∧ v9 = .int .i64 k ∧ ∃ f : Int, v8 = .int .i64 f ∧ Hid (f = lastI (rtl z0) y.a y.n k) ∧ Hid (Below w2.heap.size w2 wk)) (fun _ v9 _ => len0 - (intOf v9).toNat)
            case atStart => exact ⟨0, by omega, rfl, -1, rfl, Lib.hid rfl, HR⟩
            case round =>
              obtain ⟨k, hk, rfl, f, rfl, HF, HRK⟩ := hrel
              generalize wr = wk at *
              clear HR
              have HYK := Lib.hid (And.intro (HY2.out.1.keep (HRK.out.block b6 HY2.out.2)) (Nat.lt_of_lt_of_le HY2.out.2 HRK.out.size))
              by_cases hlk : k < len0
              · have hkr : Hid (k < (rtl z0).length) := Lib.hid (by rw [HRL.out]; exact hlk)
                obtain ⟨b3, o3, ea, hb3, hcz⟩ := HS3.out k hkr.out
                subst ea
                obtain ⟨z, hz⟩ : ∃ z, z = (rtl z0)[k]'(hkr.out) := ⟨_, rfl⟩
                rw [← hz] at hcz
                have HZ := Lib.hid (And.intro (hcz.keep (HRK.out.block b3 hb3)) (Nat.lt_of_lt_of_le hb3 HRK.out.size))
                have HZE := Lib.hid hz
                have hk9 : (k : Int) < len0 := by omega
                have hk8 : ¬ len0 ≤ k := by omega
                have hi9 : (i : Int) < c := by omega
                have hi8 : ¬ c ≤ i := by omega
                clear hz hcz
                go_upto_region 21 with (fail)
                by_cases he : z.a = y.a ∧ z.n = y.n
                · have HE := Lib.hid he
                  obtain ⟨he1, he2⟩ := he
                  refine wp_region_noPanic ?_
                  refine wp_region_held_drew (S := fun W : World => Below wk.heap.size wk W) (by kernel_rfl) ((Below.refl _ _).drew) (fun hHeld => ?_)
                  generalize wk.drew = wd at *
                  refine wpAnyH_take (i := 0) (oi := { dst := some 73, op := Op.move (Operand.tmp 3), type := 29, pos := "law.go:130", after := #[], guard := none }) (v := .slice (some ⟨b3, o3, none⟩) len0 c3) rfl (by kernel_rfl) (by kernel_rfl) (by kernel_rfl) (fun _ _ _ h => h) (Or.inl ⟨by rfl, fun w hSw => by go_simp⟩) (by assumption) ?_
                  try simp only [Act.put, List.setIfInBounds_toArray, List.set_cons_zero, List.set_cons_succ]
                  refine wpAnyH_take (i := 1) (oi := { dst := some 74, op := Op.move (Operand.tmp 9), type := 3, pos := "law.go:130", after := #[], guard := none }) (v := .int .i64 (k : Int)) rfl (by kernel_rfl) (by kernel_rfl) (by kernel_rfl) (fun _ _ _ h => h) (Or.inl ⟨by rfl, fun w hSw => by go_simp⟩) (by assumption) ?_
                  try simp only [Act.put, List.setIfInBounds_toArray, List.set_cons_zero, List.set_cons_succ]
                  refine wpAnyH_take (i := 2) (oi := { dst := some 75, op := Op.indexAddr 29 (Operand.tmp 73) (Operand.tmp 74), type := 0, pos := "law.go:130", after := #[{ on := 0, ground := Ground.data }, { on := 1, ground := Ground.data }], guard := none }) (v := .pointer (some ⟨b3, o3 + k * 5, none⟩)) rfl (by kernel_rfl) (by kernel_rfl) (by kernel_rfl) (fun _ _ _ h => h) (Or.inl ⟨by rfl, fun w hSw => by go_simp⟩) (by assumption) ?_
                  try simp only [Act.put, List.setIfInBounds_toArray, List.set_cons_zero, List.set_cons_succ]
                  refine wpAnyH_take (i := 3) (oi := { dst := some 76, op := Op.fieldAddr 39 (Operand.tmp 75) 0, type := 0, pos := "law.go:130", after := #[{ on := 2, ground := Ground.data }], guard := none }) (v := .pointer (some ⟨b3, o3 + k * 5, none⟩)) rfl (by kernel_rfl) (by kernel_rfl) (by kernel_rfl) (fun _ _ _ h => h) (Or.inl ⟨by rfl, fun w hSw => by go_simp⟩) (by assumption) ?_
                  try simp only [Act.put, List.setIfInBounds_toArray, List.set_cons_zero, List.set_cons_succ]
                  refine wpAnyH_take (i := 4) (oi := { dst := some 77, op := Op.load 32 (Operand.tmp 76), type := 32, pos := "law.go:130", after := #[{ on := 3, ground := Ground.data }], guard := none }) (v := .agg #[.int .u32 (z.a : Int), .int .u8 (z.n : Int)]) rfl (by kernel_rfl) (by kernel_rfl) (by kernel_rfl) (fun _ _ _ h => h) (Or.inl ⟨by rfl, fun w hSw => by obtain ⟨q0, q1, q2, q3, q4⟩ := HZ.out.1.keep (hSw.block b3 HZ.out.2); go_simp⟩) (by assumption) ?_
                  try simp only [Act.put, List.setIfInBounds_toArray, List.set_cons_zero, List.set_cons_succ]
                  refine wpAnyH_take (i := 5) (oi := { dst := some 78, op := Op.move (Operand.tmp 6), type := 29, pos := "law.go:130", after := #[], guard := none }) (v := .slice (some ⟨b6, o6, none⟩) c c6) rfl (by kernel_rfl) (by kernel_rfl) (by kernel_rfl) (fun _ _ _ h => h) (Or.inl ⟨by rfl, fun w hSw => by go_simp⟩) (by assumption) ?_
                  try simp only [Act.put, List.setIfInBounds_toArray, List.set_cons_zero, List.set_cons_succ]
                  refine wpAnyH_take (i := 6) (oi := { dst := some 79, op := Op.move (Operand.tmp 7), type := 3, pos := "law.go:130", after := #[], guard := none }) (v := .int .i64 (i : Int)) rfl (by kernel_rfl) (by kernel_rfl) (by kernel_rfl) (fun _ _ _ h => h) (Or.inl ⟨by rfl, fun w hSw => by go_simp⟩) (by assumption) ?_
                  try simp only [Act.put, List.setIfInBounds_toArray, List.set_cons_zero, List.set_cons_succ]
                  refine wpAnyH_take (i := 7) (oi := { dst := some 80, op := Op.indexAddr 29 (Operand.tmp 78) (Operand.tmp 79), type := 0, pos := "law.go:130", after := #[{ on := 5, ground := Ground.data }, { on := 6, ground := Ground.data }], guard := none }) (v := .pointer (some ⟨b6, o6 + i * 5, none⟩)) rfl (by kernel_rfl) (by kernel_rfl) (by kernel_rfl) (fun _ _ _ h => h) (Or.inl ⟨by rfl, fun w hSw => by go_simp⟩) (by assumption) ?_
                  try simp only [Act.put, List.setIfInBounds_toArray, List.set_cons_zero, List.set_cons_succ]
                  refine wpAnyH_take (i := 8) (oi := { dst := some 81, op := Op.fieldAddr 39 (Operand.tmp 80) 0, type := 0, pos := "law.go:130", after := #[{ on := 7, ground := Ground.data }], guard := none }) (v := .pointer (some ⟨b6, o6 + i * 5, none⟩)) rfl (by kernel_rfl) (by kernel_rfl) (by kernel_rfl) (fun _ _ _ h => h) (Or.inl ⟨by rfl, fun w hSw => by go_simp⟩) (by assumption) ?_
                  try simp only [Act.put, List.setIfInBounds_toArray, List.set_cons_zero, List.set_cons_succ]
                  refine wpAnyH_take (i := 9) (oi := { dst := some 82, op := Op.load 32 (Operand.tmp 81), type := 32, pos := "law.go:130", after := #[{ on := 8, ground := Ground.data }], guard := none }) (v := .agg #[.int .u32 (y.a : Int), .int .u8 (y.n : Int)]) rfl (by kernel_rfl) (by kernel_rfl) (by kernel_rfl) (fun _ _ _ h => h) (Or.inl ⟨by rfl, fun w hSw => by obtain ⟨q0, q1, q2, q3, q4⟩ := HYK.out.1.keep (hSw.block b6 HYK.out.2); go_simp⟩) (by assumption) ?_
                  try simp only [Act.put, List.setIfInBounds_toArray, List.set_cons_zero, List.set_cons_succ]
                  refine wpAnyH_take (i := 10) (oi := { dst := some 83, op := Op.binOp BinOp.eql 32 (Operand.tmp 77) (Operand.tmp 82) 32, type := 4, pos := "law.go:130", after := #[{ on := 4, ground := Ground.data }, { on := 9, ground := Ground.data }], guard := none }) (v := .bool true) rfl (by kernel_rfl) (by kernel_rfl) (by kernel_rfl) (fun _ _ _ h => h) (Or.inl ⟨by rfl, fun w hSw => by go_simp⟩) (by assumption) ?_
                  try simp only [Act.put, List.setIfInBounds_toArray, List.set_cons_zero, List.set_cons_succ]
                  refine wpAnyH_done (by kernel_rfl) ?_ _
                  try unfold NoPanic
                  clear he1 he2
                  have HB := Lib.hid (HRK.out.trans (hHeld.mono HRK.out.size))
                  clear hHeld
                  go_wp2
                  go_roundw
                  case rel => exact ⟨k + 1, by omega, by go_num, (k : Int), rfl, Lib.hid (by rw [lastI, getD_of hkr.out, ← HZE.out, if_pos HE.out]), HB⟩
                  case measure => simp [intOf]; omega
                · have HNE := Lib.hid he
                  clear he
                  refine wp_region_noPanic ?_
                  refine wp_region_held_drew (S := fun W : World => Below wk.heap.size wk W) (by kernel_rfl) ((Below.refl _ _).drew) (fun hHeld => ?_)
                  generalize wk.drew = wd at *
                  refine wpAnyH_take (i := 0) (oi := { dst := some 73, op := Op.move (Operand.tmp 3), type := 29, pos := "law.go:130", after := #[], guard := none }) (v := .slice (some ⟨b3, o3, none⟩) len0 c3) rfl (by kernel_rfl) (by kernel_rfl) (by kernel_rfl) (fun _ _ _ h => h) (Or.inl ⟨by rfl, fun w hSw => by go_simp⟩) (by assumption) ?_
                  try simp only [Act.put, List.setIfInBounds_toArray, List.set_cons_zero, List.set_cons_succ]
                  refine wpAnyH_take (i := 1) (oi := { dst := some 74, op := Op.move (Operand.tmp 9), type := 3, pos := "law.go:130", after := #[], guard := none }) (v := .int .i64 (k : Int)) rfl (by kernel_rfl) (by kernel_rfl) (by kernel_rfl) (fun _ _ _ h => h) (Or.inl ⟨by rfl, fun w hSw => by go_simp⟩) (by assumption) ?_
                  try simp only [Act.put, List.setIfInBounds_toArray, List.set_cons_zero, List.set_cons_succ]
                  refine wpAnyH_take (i := 2) (oi := { dst := some 75, op := Op.indexAddr 29 (Operand.tmp 73) (Operand.tmp 74), type := 0, pos := "law.go:130", after := #[{ on := 0, ground := Ground.data }, { on := 1, ground := Ground.data }], guard := none }) (v := .pointer (some ⟨b3, o3 + k * 5, none⟩)) rfl (by kernel_rfl) (by kernel_rfl) (by kernel_rfl) (fun _ _ _ h => h) (Or.inl ⟨by rfl, fun w hSw => by go_simp⟩) (by assumption) ?_
                  try simp only [Act.put, List.setIfInBounds_toArray, List.set_cons_zero, List.set_cons_succ]
                  refine wpAnyH_take (i := 3) (oi := { dst := some 76, op := Op.fieldAddr 39 (Operand.tmp 75) 0, type := 0, pos := "law.go:130", after := #[{ on := 2, ground := Ground.data }], guard := none }) (v := .pointer (some ⟨b3, o3 + k * 5, none⟩)) rfl (by kernel_rfl) (by kernel_rfl) (by kernel_rfl) (fun _ _ _ h => h) (Or.inl ⟨by rfl, fun w hSw => by go_simp⟩) (by assumption) ?_
                  try simp only [Act.put, List.setIfInBounds_toArray, List.set_cons_zero, List.set_cons_succ]
                  refine wpAnyH_take (i := 4) (oi := { dst := some 77, op := Op.load 32 (Operand.tmp 76), type := 32, pos := "law.go:130", after := #[{ on := 3, ground := Ground.data }], guard := none }) (v := .agg #[.int .u32 (z.a : Int), .int .u8 (z.n : Int)]) rfl (by kernel_rfl) (by kernel_rfl) (by kernel_rfl) (fun _ _ _ h => h) (Or.inl ⟨by rfl, fun w hSw => by obtain ⟨q0, q1, q2, q3, q4⟩ := HZ.out.1.keep (hSw.block b3 HZ.out.2); go_simp⟩) (by assumption) ?_
                  try simp only [Act.put, List.setIfInBounds_toArray, List.set_cons_zero, List.set_cons_succ]
                  refine wpAnyH_take (i := 5) (oi := { dst := some 78, op := Op.move (Operand.tmp 6), type := 29, pos := "law.go:130", after := #[], guard := none }) (v := .slice (some ⟨b6, o6, none⟩) c c6) rfl (by kernel_rfl) (by kernel_rfl) (by kernel_rfl) (fun _ _ _ h => h) (Or.inl ⟨by rfl, fun w hSw => by go_simp⟩) (by assumption) ?_
                  try simp only [Act.put, List.setIfInBounds_toArray, List.set_cons_zero, List.set_cons_succ]
                  refine wpAnyH_take (i := 6) (oi := { dst := some 79, op := Op.move (Operand.tmp 7), type := 3, pos := "law.go:130", after := #[], guard := none }) (v := .int .i64 (i : Int)) rfl (by kernel_rfl) (by kernel_rfl) (by kernel_rfl) (fun _ _ _ h => h) (Or.inl ⟨by rfl, fun w hSw => by go_simp⟩) (by assumption) ?_
                  try simp only [Act.put, List.setIfInBounds_toArray, List.set_cons_zero, List.set_cons_succ]
                  refine wpAnyH_take (i := 7) (oi := { dst := some 80, op := Op.indexAddr 29 (Operand.tmp 78) (Operand.tmp 79), type := 0, pos := "law.go:130", after := #[{ on := 5, ground := Ground.data }, { on := 6, ground := Ground.data }], guard := none }) (v := .pointer (some ⟨b6, o6 + i * 5, none⟩)) rfl (by kernel_rfl) (by kernel_rfl) (by kernel_rfl) (fun _ _ _ h => h) (Or.inl ⟨by rfl, fun w hSw => by go_simp⟩) (by assumption) ?_
                  try simp only [Act.put, List.setIfInBounds_toArray, List.set_cons_zero, List.set_cons_succ]
                  refine wpAnyH_take (i := 8) (oi := { dst := some 81, op := Op.fieldAddr 39 (Operand.tmp 80) 0, type := 0, pos := "law.go:130", after := #[{ on := 7, ground := Ground.data }], guard := none }) (v := .pointer (some ⟨b6, o6 + i * 5, none⟩)) rfl (by kernel_rfl) (by kernel_rfl) (by kernel_rfl) (fun _ _ _ h => h) (Or.inl ⟨by rfl, fun w hSw => by go_simp⟩) (by assumption) ?_
                  try simp only [Act.put, List.setIfInBounds_toArray, List.set_cons_zero, List.set_cons_succ]
                  refine wpAnyH_take (i := 9) (oi := { dst := some 82, op := Op.load 32 (Operand.tmp 81), type := 32, pos := "law.go:130", after := #[{ on := 8, ground := Ground.data }], guard := none }) (v := .agg #[.int .u32 (y.a : Int), .int .u8 (y.n : Int)]) rfl (by kernel_rfl) (by kernel_rfl) (by kernel_rfl) (fun _ _ _ h => h) (Or.inl ⟨by rfl, fun w hSw => by obtain ⟨q0, q1, q2, q3, q4⟩ := HYK.out.1.keep (hSw.block b6 HYK.out.2); go_simp⟩) (by assumption) ?_
                  try simp only [Act.put, List.setIfInBounds_toArray, List.set_cons_zero, List.set_cons_succ]
                  refine wpAnyH_take (i := 10) (oi := { dst := some 83, op := Op.binOp BinOp.eql 32 (Operand.tmp 77) (Operand.tmp 82) 32, type := 4, pos := "law.go:130", after := #[{ on := 4, ground := Ground.data }, { on := 9, ground := Ground.data }], guard := none }) (v := .bool false) rfl (by kernel_rfl) (by kernel_rfl) (by kernel_rfl) (fun _ _ _ h => h) (Or.inl ⟨by rfl, fun w hSw => by have hnn := HNE.out; go_simp; intro g1 g2; exact hnn ⟨by omega, by omega⟩⟩) (by assumption) ?_
                  try simp only [Act.put, List.setIfInBounds_toArray, List.set_cons_zero, List.set_cons_succ]
                  refine wpAnyH_done (by kernel_rfl) ?_ _
                  try unfold NoPanic
                  have HB := Lib.hid (HRK.out.trans (hHeld.mono HRK.out.size))
                  clear hHeld
                  go_wp2
                  go_roundw
                  case rel => exact ⟨k + 1, by omega, by go_num, f, rfl, Lib.hid (by rw [lastI, getD_of hkr.out, ← HZE.out, if_neg HNE.out]; exact HF.out), HB⟩
                  case measure => simp [intOf]; omega
              · obtain rfl : k = len0 := by omega
                go_wp2
                go_meet
                case rel => exact ⟨by rw [HF.out, lastI_at (by rw [HRL.out]; exact Nat.le_refl _) HJ.out], HRK⟩
          case rest =>
            obtain ⟨rfl, HR⟩ := hcut
            generalize wc = wk at *
            have hjl : Hid (j < (rtl z0).length) := Lib.hid (by rw [HRL.out]; exact HJ.out.1)
            obtain ⟨b3, o3, ea, hb3, hcz⟩ := HS3.out j hjl.out
            subst ea
            rw [show (rtl z0)[j]'(hjl.out) = y by have h := HJ.out.2.1; rw [List.getElem?_eq_getElem hjl.out] at h; injection h] at hcz
            have HZ := Lib.hid (And.intro (hcz.keep (HR.out.block b3 hb3)) (Nat.lt_of_lt_of_le hb3 HR.out.size))
            have HYK := Lib.hid (And.intro (HY2.out.1.keep (HR.out.block b6 HY2.out.2)) (Nat.lt_of_lt_of_le HY2.out.2 HR.out.size))
            have hj1 := HJ.out.1
            have hj9 : (j : Int) < len0 := by omega
            have hj8 : ¬ len0 ≤ j := by omega
            have hj7 : ¬ (j : Int) < 0 := by omega
            have hi9 : (i : Int) < c := by omega
            have hi8 : ¬ c ≤ i := by omega
            clear hcz hj1
            go_upto_region 23 with (fail)
            refine wp_region_noPanic ?_
            refine wp_region_held_drew (S := fun W : World => Below wk.heap.size wk W) (by kernel_rfl) ((Below.refl _ _).drew) (fun hHeld => ?_)
            generalize wk.drew = wd at *
            refine wpAnyH_take (i := 0) (oi := { dst := some 85, op := Op.move (Operand.tmp 8), type := 3, pos := "law.go:134", after := #[], guard := none }) (v := .int .i64 (j : Int)) rfl (by kernel_rfl) (by kernel_rfl) (by kernel_rfl) (fun _ _ _ h => h) (Or.inl ⟨by rfl, fun w hSw => by go_simp⟩) (by assumption) ?_
            try simp only [Act.put, List.setIfInBounds_toArray, List.set_cons_zero, List.set_cons_succ]
            refine wpAnyH_take (i := 1) (oi := { dst := some 86, op := Op.binOp BinOp.lss 3 (Operand.tmp 85) (Operand.const (Value.int IntKind.i64 0)) 3, type := 4, pos := "law.go:134", after := #[{ on := 0, ground := Ground.data }], guard := none }) (v := .bool false) rfl (by kernel_rfl) (by kernel_rfl) (by kernel_rfl) (fun _ _ _ h => h) (Or.inl ⟨by rfl, fun w hSw => by go_simp⟩) (by assumption) ?_
            try simp only [Act.put, List.setIfInBounds_toArray, List.set_cons_zero, List.set_cons_succ]
            refine wpAnyH_take (i := 2) (oi := { dst := some 87, op := Op.move (Operand.tmp 86), type := 4, pos := "law.go:134", after := #[{ on := 1, ground := Ground.data }], guard := none }) (v := .bool false) rfl (by kernel_rfl) (by kernel_rfl) (by kernel_rfl) (fun _ _ _ h => h) (Or.inl ⟨by rfl, fun w hSw => by go_simp⟩) (by assumption) ?_
            try simp only [Act.put, List.setIfInBounds_toArray, List.set_cons_zero, List.set_cons_succ]
            refine wpAnyH_take (i := 3) (oi := { dst := some 88, op := Op.move (Operand.tmp 3), type := 29, pos := "law.go:134", after := #[{ on := 2, ground := Ground.guard }], guard := some (2, false) }) (v := .slice (some ⟨b3, o3, none⟩) len0 c3) rfl (by kernel_rfl) (by kernel_rfl) (by kernel_rfl) (fun _ _ _ h => h) (Or.inl ⟨by rfl, fun w hSw => by go_simp⟩) (by assumption) ?_
            try simp only [Act.put, List.setIfInBounds_toArray, List.set_cons_zero, List.set_cons_succ]
            refine wpAnyH_take (i := 4) (oi := { dst := some 89, op := Op.move (Operand.tmp 8), type := 3, pos := "law.go:134", after := #[{ on := 2, ground := Ground.guard }], guard := some (2, false) }) (v := .int .i64 (j : Int)) rfl (by kernel_rfl) (by kernel_rfl) (by kernel_rfl) (fun _ _ _ h => h) (Or.inl ⟨by rfl, fun w hSw => by go_simp⟩) (by assumption) ?_
            try simp only [Act.put, List.setIfInBounds_toArray, List.set_cons_zero, List.set_cons_succ]
            refine wpAnyH_take (i := 5) (oi := { dst := some 90, op := Op.indexAddr 29 (Operand.tmp 88) (Operand.tmp 89), type := 0, pos := "law.go:134", after := #[{ on := 3, ground := Ground.data }, { on := 4, ground := Ground.data }, { on := 2, ground := Ground.guard }], guard := some (2, false) }) (v := .pointer (some ⟨b3, o3 + j * 5, none⟩)) rfl (by kernel_rfl) (by kernel_rfl) (by kernel_rfl) (fun _ _ _ h => h) (Or.inl ⟨by rfl, fun w hSw => by go_simp⟩) (by assumption) ?_
            try simp only [Act.put, List.setIfInBounds_toArray, List.set_cons_zero, List.set_cons_succ]
            refine wpAnyH_take (i := 6) (oi := { dst := some 91, op := Op.load 39 (Operand.tmp 90), type := 39, pos := "law.go:134", after := #[{ on := 5, ground := Ground.data }, { on := 2, ground := Ground.guard }], guard := some (2, false) }) (v := .agg #[.int .u32 (y.a : Int), .int .u8 (y.n : Int), .int .i64 y.via, .int .u16 y.mt, .int .u16 y.sq]) rfl (by kernel_rfl) (by kernel_rfl) (by kernel_rfl) (fun _ _ _ h => h) (Or.inl ⟨by rfl, fun w hSw => by obtain ⟨q0, q1, q2, q3, q4⟩ := HZ.out.1.keep (hSw.block b3 HZ.out.2); go_simp⟩) (by assumption) ?_
            try simp only [Act.put, List.setIfInBounds_toArray, List.set_cons_zero, List.set_cons_succ]
            refine wpAnyH_take (i := 7) (oi := { dst := some 92, op := Op.move (Operand.tmp 6), type := 29, pos := "law.go:134", after := #[{ on := 2, ground := Ground.guard }], guard := some (2, false) }) (v := .slice (some ⟨b6, o6, none⟩) c c6) rfl (by kernel_rfl) (by kernel_rfl) (by kernel_rfl) (fun _ _ _ h => h) (Or.inl ⟨by rfl, fun w hSw => by go_simp⟩) (by assumption) ?_
            try simp only [Act.put, List.setIfInBounds_toArray, List.set_cons_zero, List.set_cons_succ]
            refine wpAnyH_take (i := 8) (oi := { dst := some 93, op := Op.move (Operand.tmp 7), type := 3, pos := "law.go:134", after := #[{ on := 2, ground := Ground.guard }], guard := some (2, false) }) (v := .int .i64 (i : Int)) rfl (by kernel_rfl) (by kernel_rfl) (by kernel_rfl) (fun _ _ _ h => h) (Or.inl ⟨by rfl, fun w hSw => by go_simp⟩) (by assumption) ?_
            try simp only [Act.put, List.setIfInBounds_toArray, List.set_cons_zero, List.set_cons_succ]
            refine wpAnyH_take (i := 9) (oi := { dst := some 94, op := Op.indexAddr 29 (Operand.tmp 92) (Operand.tmp 93), type := 0, pos := "law.go:134", after := #[{ on := 7, ground := Ground.data }, { on := 8, ground := Ground.data }, { on := 2, ground := Ground.guard }], guard := some (2, false) }) (v := .pointer (some ⟨b6, o6 + i * 5, none⟩)) rfl (by kernel_rfl) (by kernel_rfl) (by kernel_rfl) (fun _ _ _ h => h) (Or.inl ⟨by rfl, fun w hSw => by go_simp⟩) (by assumption) ?_
            try simp only [Act.put, List.setIfInBounds_toArray, List.set_cons_zero, List.set_cons_succ]
            refine wpAnyH_take (i := 10) (oi := { dst := some 95, op := Op.load 39 (Operand.tmp 94), type := 39, pos := "law.go:134", after := #[{ on := 9, ground := Ground.data }, { on := 2, ground := Ground.guard }], guard := some (2, false) }) (v := .agg #[.int .u32 (y.a : Int), .int .u8 (y.n : Int), .int .i64 y.via, .int .u16 y.mt, .int .u16 y.sq]) rfl (by kernel_rfl) (by kernel_rfl) (by kernel_rfl) (fun _ _ _ h => h) (Or.inl ⟨by rfl, fun w hSw => by obtain ⟨q0, q1, q2, q3, q4⟩ := HYK.out.1.keep (hSw.block b6 HYK.out.2); go_simp⟩) (by assumption) ?_
            try simp only [Act.put, List.setIfInBounds_toArray, List.set_cons_zero, List.set_cons_succ]
            refine wpAnyH_take (i := 11) (oi := { dst := some 96, op := Op.binOp BinOp.neq 39 (Operand.tmp 91) (Operand.tmp 95) 39, type := 4, pos := "law.go:134", after := #[{ on := 6, ground := Ground.data }, { on := 10, ground := Ground.data }, { on := 2, ground := Ground.guard }], guard := some (2, false) }) (v := .bool false) rfl (by kernel_rfl) (by kernel_rfl) (by kernel_rfl) (fun _ _ _ h => h) (Or.inl ⟨by rfl, fun w hSw => by go_simp⟩) (by assumption) ?_
            try simp only [Act.put, List.setIfInBounds_toArray, List.set_cons_zero, List.set_cons_succ]
            refine wpAnyH_take (i := 12) (oi := { dst := some 97, op := Op.pick (Operand.tmp 87) (Operand.const (Value.bool true)) (Operand.tmp 96), type := 4, pos := "law.go:134", after := #[{ on := 2, ground := Ground.data }, { on := 11, ground := Ground.data }], guard := none }) (v := .bool false) rfl (by kernel_rfl) (by kernel_rfl) (by kernel_rfl) (fun _ _ _ h => h) (Or.inl ⟨by rfl, fun w hSw => by go_simp⟩) (by assumption) ?_
            try simp only [Act.put, List.setIfInBounds_toArray, List.set_cons_zero, List.set_cons_succ]
            refine wpAnyH_done (by kernel_rfl) ?_ _
            try unfold NoPanic
            have HB := Lib.hid (HR.out.trans (hHeld.mono HR.out.size))
            clear hHeld
            go_wp2
            go_roundw
            case rel => exact ⟨i + 1, by omega, by go_num, HB⟩
            case measure => simp [intOf]; omega
      · obtain rfl : i = c := by omega
        go_wp2
        go_loopw [10] (fun v wr => ∃ k : Nat, k ≤ len0 ∧ v = .int .i64 k ∧ Hid (Below w2.heap.size w2 wr)) (fun v _ => len0 - (intOf v).toNat)
        case atStart => exact ⟨0, by omega, rfl, HR⟩
        case round =>
          obtain ⟨k, hk, rfl, HR6⟩ := hrel
          by_cases hlt : k < len0
          · have hkr : Hid (k < (rtl z0).length) := Lib.hid (by rw [HRL.out]; exact hlt)
            obtain ⟨b3, o3, ea, hb3, hcz⟩ := HS3.out k hkr.out
            subst ea
            obtain ⟨z, hz⟩ : ∃ z, z = (rtl z0)[k]'(hkr.out) := ⟨_, rfl⟩
            rw [← hz] at hcz
            obtain ⟨y, hy1, hy2, hy3⟩ := HWF.out.2.2 k hlt
            rw [← hz] at hy2 hy3
            have hfi := findI_mem t.list z.a z.n ⟨y, list_mem.2 hy1, hy2, hy3⟩
            have c9 := fun W (S : RtSl W A6 t.list) => find_any W A6 i c6 t.list HPL.out.symm (by omega) S z.a z.n
            obtain ⟨q0, q1, q2, q3, q4⟩ := hcz.keep (HR6.out.block b3 hb3)
            have c9' := c9 _ (HS6.out.below HR6.out)
            obtain ⟨f, hf⟩ : ∃ f, f = findI t.list z.a z.n := ⟨_, rfl⟩
            rw [← hf] at c9' hfi
            have hf9 : ¬ f < 0 := by omega
            clear c9 hz hy1 hy2 hy3 hcz hf
            go_wp2_with (first
              | (go_at_call 9; (with_reducible refine c9'.mono ?_); rintro e w7 ⟨rfl, B7⟩; have HB7 := Lib.hid B7; clear B7 c9'))
            go_roundw
            case rel => exact ⟨k + 1, by omega, by go_num, Lib.hid (HR6.out.trans (HB7.out.mono HR6.out.size))⟩
            case measure => simp [intOf]; omega
          · obtain rfl : k = len0 := by omega
            go_wp2
            go_ret
            have h5 := HBW.out.trans (HR6.out.mono HBW.out.size)
            exact ⟨rfl, HW.out.trans (h5.mono HW.out.size)⟩

set_option maxRecDepth 100000 in
theorem lifted (os : Os) (started : os.Started) (H : Type) (enc : TypeId × Value → H) :
    ReturnsInHanded {} Try.checked os 4 .any (Rows.trieRisesSpec.pre6 enc Try.prog Try.f4 Rows.trieRisesRow.domain false) (Rows.trieRisesSpec.post enc Try.prog Try.f4 false true false false) := by
  refine returnsInHanded_of_change (C := Try.checked) own started (by kernel_rfl) Try.func4
    (ChangeSpec.witness6 (enc := enc) (C := Try.checked) false ⟨#[], #[.slice none 0 0], []⟩ 8 (by kernel_rfl) (by kernel_rfl) (by kernel_rfl) (by kernel_rfl)) ?_
  intro W base args ds gs before hval0 hW hcnd _
  have hval : ∀ (j : Nat) t v, Try.f4.params[j]? = some t → args[j]? = some v → Value.okWide Try.prog W .any base t v := hval0
  have hW' := hW
  obtain ⟨p, q, hA0, hV, rfl, hfz, hnd⟩ := hW
  have hA : DataW.TrodAll enc Try.prog W 0 (fun _ => true) true Try.f4.params.toList args.toList ds p := hA0
  rw [Try.params4] at hA hval
  obtain ⟨v0, vs0, d0, ds0, p0, q0, hargs, rfl, rfl, h0, r0⟩ := trodAll_cons hA
  obtain ⟨rfl, rfl, rfl⟩ := trodAll_nil r0
  obtain rfl : args = #[v0] := by cases args; simp_all
  obtain ⟨rfl, rfl⟩ := trodVars_none hV
  obtain ⟨a0, len0, cap0, rfl⟩ := okWide_slice Try.underlying22 (hval 0 22 v0 rfl rfl)
  have k0 := h0
  have lt0 : ∀ x ∈ p0, x.block < W.heap.size := by obtain ⟨m, hm⟩ := k0; exact DataW.trod_lt m _ _ _ hm
  obtain ⟨z0, w0⟩ : ∃ zs, IsActs W a0 len0 cap0 zs := by
    obtain ⟨fuel, hf⟩ := h0
    obtain ⟨a, l, c, ds, hcs, hds⟩ := acts_of hf
    simp [Value.cells] at hcs
    obtain ⟨rfl, rfl, rfl⟩ := hcs
    exact ⟨ds, hds⟩
  clear hA0 hval0
  refine (walk a0 len0 cap0 z0 W w0).mono fun e W' ⟨he, bel⟩ => ?_
  subst he
  exact ⟨_, rfl, _, _, _, [], _, [], hW', trodAll_mk1 (shut_bool Try.underlying4 _), (trodAll_cons_mk (Below.trod laidOut (by kernel_rfl) (of_decide_eq_true (by kernel_rfl)) k0 bel lt0) trodAll_mk0), rfl, bel.frame _, fun h => by cases h⟩

theorem over : Rows.trieRisesRow.holds Try.pinned (OpenSpec.ofChange Rows.trieRisesSpec) :=
  OpenClaim.holds_of_wide 4 Try.f4 rfl rfl rfl rfl rfl rfl rfl ⟨rfl, rfl, rfl, rfl, rfl⟩ rfl rfl rfl rfl rfl (by kernel_rfl) Try.func4 (by kernel_rfl)
    (of_decide_eq_true (by kernel_rfl)) (by unfold Func.isWrapper; first | (rw [if_pos (by decide +kernel)]; kernel_rfl) | (rw [if_neg (by decide +kernel)]; exact ⟨rfl, rfl⟩))
    (fun os started H enc _ => lifted os started H enc)

theorem proved : Rows.TrieRisesSaid := over
#print axioms proved
end Go.Proofs.Ytfhpcpanjonpeaa.trieRises
