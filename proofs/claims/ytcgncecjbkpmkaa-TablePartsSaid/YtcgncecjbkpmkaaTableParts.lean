/-
  'For every input the Go function milestonelaw08.TableParts returns true, and each argument reads behind the call as it read before.'
  Conditions: none but the row's own (linux/amd64, sizes of what is read within the address space).
-/
import Derived.Test.YtcgncecjbkpmkaaRows
import Derived.WalkKit
import Derived.ProofKit
import Derived.OpenShut
import Derived.ShutString
import Derived.ChangeOld
import Derived.Below
import Derived.Lib.SmallJoins
import Derived.Lib.Hide
import Derived.Test.YtcgncecjbkpmkaaKw
import Derived.Test.YtcgncecjbkpmkaaKx
import Derived.Test.YtcgncecjbkpmkaaHo
import Derived.Test.YtcgncecjbkpmkaaLg
namespace Go.Proofs.Ytcgncecjbkpmkaa.tableParts
open Pre
open Ser
open Chg
open Coin
open Tab
open Go.ChangeShapes Go.WideShapes Go.ChangeAt Go.RowKit
open Go.ChangeMaps (open_string shut_string)
set_option linter.unusedVariables false

theorem own : ownKnob Try.prog.godebug = none := by kernel_rfl
theorem laidOut : laidOutB Try.prog = true := by kernel_rfl

set_option maxRecDepth 100000 in
set_option maxHeartbeats 4000000 in
theorem walk (a0 : Option Addr) (len0 cap0 : Nat) (z0 : List ActD) (a1 : Int) (w : World) (w0 : IsActs w a0 len0 cap0 z0) (w1 : (Lit.int .u8 a1).wf = true) :
    Calls Try.prog 5 #[.slice a0 len0 cap0, .int .u8 a1] w fun e w' => e = .returned (.bool true) ∧ Below w.heap.size w w' := by
  obtain ⟨hl1, hl2, hl3, HA, hnil⟩ := w0
  unfold maxLen at hl3
  have hc1 := bounds_u8 w1
  clear w1
  by_cases h2 : 50 < len0
  · have h2' : (50 : Int) < len0 := by omega
    clear h2 hl1 HA
    go_enter Try.func5, Try.ntmps5
    go_wp2_with fail
    refine (awake_any _).mono ?_
    rintro e w1 ⟨rfl, h1⟩
    go_wp2_with fail
    refine (awake_any _).mono ?_
    rintro e w2 ⟨rfl, h2⟩
    go_wp2_with fail
    go_ret
    exact ⟨rfl, h1.trans (h2.mono h1.size)⟩
  have h2' : ¬ (50 : Int) < len0 := by omega
  have hl50 : len0 ≤ 50 := by omega
  have hl60 : len0 ≤ 60 := by omega
  have HL := Lib.hid (And.intro hl1 HA)
  clear h2 hl1 HA hnil
  obtain ⟨nn, hnn⟩ : ∃ nn : Nat, (nn : Int) = (a1 : Int).tmod ((len0 : Int) + 1) := ⟨((a1 : Int).tmod ((len0 : Int) + 1)).toNat, Int.toNat_of_nonneg (Int.tmod_nonneg _ hc1.1)⟩
  have hnl : nn ≤ len0 := by
    have := Int.tmod_lt_of_pos (a1 : Int) (show (0 : Int) < (len0 : Int) + 1 by omega)
    omega
  replace hnn := hnn.symm
  have hmod : a1 % ((len0 : Int) + 1) = nn := by rw [← hnn, Int.tmod_eq_emod_of_nonneg hc1.1]
  go_enter Try.func5, Try.ntmps5
  go_wp2_with (first
    | (go_at_call 6; (with_reducible refine (awake_any _).mono ?_); rintro e w1 ⟨rfl, B1⟩; have HB1 := Lib.hid B1; clear B1)
    | (go_at_call 7; (with_reducible refine (history_exact _ a0 len0 cap0 z0 HL.out.1 hl60 (HL.out.2.below HB1.out)).mono ?_); rintro e w2 ⟨v2, cs, rfl, O2, L2, G2, B2⟩; obtain ⟨A1, c1, hv2, hsl, -⟩ := O2.form; rw [L2] at hv2; subst hv2; have hc1l : len0 ≤ c1 := (by have := ch_cap O2; omega); have HH := Lib.hid (And.intro hsl (And.intro L2 (And.intro (G2.gd (by have := HL.out.1; omega)) (HB1.out.trans (B2.mono HB1.out.size))))); clear O2 L2 G2 B2 hsl)
    | (go_at_call 8; (with_reducible refine (of_any _ A1 nn c1 (cs.take nn) (by have := HH.out.2.1; rw [List.length_take]; omega) (by omega) (ChSl.take' HH.out.1 nn) (HH.out.2.2.1.take nn)).mono ?_); rintro e w3 ⟨q1, v3, rfl, T3, B3⟩; have HT1 := Lib.hid (And.intro T3 (And.intro B3 (HH.out.2.2.2.trans (B3.mono HH.out.2.2.2.size)))); clear T3 B3)
    | (go_at_call 19; (with_reducible refine (encode_any _ _ q1 (tabOf (cs.take nn)) v3 HT1.out.1 (fun r hr => ((take_ok HH.out.2.2.1 nn (by have := HH.out.2.1; omega)).1.ok r hr).fits) (take_ok HH.out.2.2.1 nn (by have := HH.out.2.1; omega)).1.no (take_ok HH.out.2.2.1 nn (by have := HH.out.2.1; omega)).1.time (by have := (take_ok HH.out.2.2.1 nn (by have := HH.out.2.1; omega)).2.1; omega)).mono ?_); rintro e w4 ⟨v4, rfl, O4, B4⟩; obtain ⟨A4, c4, hv4, hrd4, -, -⟩ := O4.form; obtain ⟨m4, hm4⟩ : ∃ m4, m4 = (tabOf (cs.take nn)).enc.length := ⟨_, rfl⟩; rw [← hm4] at hv4; subst hv4; have HE1 := Lib.hid (And.intro hrd4 (And.intro hm4 (And.intro B4 (HT1.out.2.2.trans (B4.mono HT1.out.2.2.size))))); clear O4 B4 hrd4 hm4)
    | (go_at_call 21; (with_reducible refine (decode_enc A4 m4 c4 (tabOf (cs.take nn)) _ HE1.out.2.1 (take_ok HH.out.2.2.1 nn (by have := HH.out.2.1; omega)).1 (by have := (take_ok HH.out.2.2.1 nn (by have := HH.out.2.1; omega)).2.1; omega) HE1.out.1).mono ?_); rintro e w5 ⟨q2, v5, rfl, T5, B5⟩; have HT2 := Lib.hid (And.intro T5 (And.intro B5 (HE1.out.2.2.2.trans (B5.mono HE1.out.2.2.2.size)))); clear T5 B5))
  have HCS : Hid (ChSl w4 A1 cs) := (HH.out.1.below HT1.out.2.1).below HE1.out.2.2.1
  have HL0 : Hid (TabAt w5 w4.heap.size q2 (tabOf (cs.take nn)) v5 ∧ Below w4.heap.size w4 w5) := ⟨HT2.out.1, HT2.out.2.1⟩
  go_loopw [10] (fun i wr => ∃ j : Nat, j ≤ len0 ∧ i = .int .i64 j ∧ ∃ v, Hid (TabAt wr w4.heap.size q2 (tabOf (cs.take j)) v ∧ Below w4.heap.size w4 wr)) (fun i _ => len0 - (intOf i).toNat)
  case atStart => exact ⟨nn, hnl, rfl, v5, HL0⟩
  case round =>
    obtain ⟨j, hj, rfl, v, HR⟩ := hrel
    clear HL0
    by_cases hlt : j < len0
    · have hjl : j < cs.length := by rw [HH.out.2.1]; exact hlt
      obtain ⟨bb, oo, ea, hb, hca⟩ := (HCS.out.below HR.out.2) j hjl
      subst ea
      have hto := take_ok HH.out.2.2.1 j (by omega)
      have hap := apply_any wr w4.heap.size q2 (tabOf (cs.take j)) v cs[j] HR.out.1 hto.1 (HH.out.2.2.1.ok j hjl) (by rw [hto.2.2]; exact HH.out.2.2.1.no j hjl) (HH.out.2.2.1.time j hjl) (gone_there HH.out.2.2.1 j hjl) (by have := hto.2.1; omega)
      rw [← tabOf_take cs j hjl] at hap
      obtain ⟨g0, g1, g2, g3, g4, g5, g6, g7⟩ := hca
      generalize cs[j]'_ = c at *
      have HAP : Hid (Calls Try.prog 22 #[.pointer (some ⟨q2, 0, none⟩), .agg #[.int .u64 (c.no : Int), .int .u64 (c.time : Int), .bool c.gone, .int .u32 (c.addr : Int), .int .u8 (c.len : Int), .int .i64 (c.via : Int), .int .u16 (c.metric : Int), .int .u16 (c.seq : Int)]] wr (PutSaid wr w4.heap.size q2 v.ownBlock (tabOf (cs.take (j + 1))))) := hap
      clear hap hto
      go_wp2_with (go_at_call 22; (with_reducible refine HAP.out.mono ?_); rintro e w6 ⟨v6, rfl, T6, B6, -⟩; have HZ := Lib.hid (And.intro T6 (HR.out.2.trans B6)); clear T6 B6)
      go_roundw
      case rel => exact ⟨j + 1, by omega, by go_num, v6, HZ.out⟩
      case measure => simp [intOf]; omega
    · obtain rfl : j = len0 := by omega
      have hu : TabAt wr w4.heap.size q2 (tabOf cs) v := by
        have := HR.out.1
        rwa [List.take_of_length_le (by rw [HH.out.2.1]; exact Nat.le_refl _)] at this
      have hto := take_ok HH.out.2.2.1 cs.length (Nat.le_refl _)
      rw [List.take_length] at hto
      obtain ⟨y, hy⟩ : ∃ y, y = (tabOf cs).enc := ⟨_, rfl⟩
      have HEN : Hid (∀ W B q v, TabAt W B q (tabOf cs) v → Calls Try.prog 19 #[.pointer (some ⟨q, 0, none⟩)] W (CoinOwn W y)) := fun W B q v h => by
        rw [hy]
        exact encode_any W B q (tabOf cs) v h (fun r hr => (hto.1.ok r hr).fits) hto.1.no hto.1.time (by have := hto.2.1; have := HH.out.2.1; omega)
      have HU := Lib.hid hu
      clear hu hto hy
      go_upto_region 15 with (go_at_call 8; (with_reducible refine (of_any _ A1 j c1 cs HH.out.2.1.symm hl60 (HCS.out.below HR.out.2) HH.out.2.2.1).mono ?_); rintro e w7 ⟨q3, v7, rfl, T7, B7⟩; have HT3 := Lib.hid (And.intro T7 (And.intro (HU.out.kept B7) (HR.out.2.trans (B7.mono HR.out.2.size)))); clear T7 B7)
      have HW := Lib.hid (And.intro (HT3.out.1.kept (Below.refl _ _).drew) (And.intro (HT3.out.2.1.kept (Below.refl _ _).drew) HT3.out.2.2.drew))
      refine wp_region_noPanic ?_
      refine wp_region_held_drew (S := fun _ : World => True) (by kernel_rfl) trivial (fun hHeld => ?_)
      generalize w7.drew = wd at *
      refine wpAnyH_take (i := 0) (oi := { dst := some 60, op := Op.move (Operand.tmp 9), type := 59, pos := "more.go:26", after := #[], guard := none }) (v := .int .i64 0) rfl (by kernel_rfl) (by kernel_rfl) (by kernel_rfl) (fun _ _ _ h => h) (Or.inl ⟨by rfl, fun w hSw => by go_simp⟩) (by assumption) ?_
      try simp only [Act.put, List.setIfInBounds_toArray, List.set_cons_zero, List.set_cons_succ]
      refine wpAnyH_take (i := 1) (oi := { dst := some 61, op := Op.binOp BinOp.eql 59 (Operand.tmp 60) (Operand.const (Value.int IntKind.i64 0)) 59, type := 4, pos := "more.go:26", after := #[{ on := 0, ground := Ground.data }], guard := none }) (v := .bool true) rfl (by kernel_rfl) (by kernel_rfl) (by kernel_rfl) (fun _ _ _ h => h) (Or.inl ⟨by rfl, fun w hSw => by go_simp⟩) (by assumption) ?_
      try simp only [Act.put, List.setIfInBounds_toArray, List.set_cons_zero, List.set_cons_succ]
      refine wpAnyH_take (i := 2) (oi := { dst := some 62, op := Op.move (Operand.tmp 61), type := 4, pos := "more.go:26", after := #[{ on := 1, ground := Ground.data }], guard := none }) (v := .bool true) rfl (by kernel_rfl) (by kernel_rfl) (by kernel_rfl) (fun _ _ _ h => h) (Or.inl ⟨by rfl, fun w hSw => by go_simp⟩) (by assumption) ?_
      try simp only [Act.put, List.setIfInBounds_toArray, List.set_cons_zero, List.set_cons_succ]
      refine wpAnyH_take (i := 3) (oi := { dst := some 63, op := Op.move (Operand.tmp 11), type := 26, pos := "more.go:26", after := #[{ on := 2, ground := Ground.guard }], guard := some (2, true) }) (v := .pointer (some ⟨q3, 0, none⟩)) rfl (by kernel_rfl) (by kernel_rfl) (by kernel_rfl) (fun _ _ _ h => h) (Or.inl ⟨by rfl, fun w hSw => by go_simp⟩) (by assumption) ?_
      try simp only [Act.put, List.setIfInBounds_toArray, List.set_cons_zero, List.set_cons_succ]
      refine wpAnyH_take (i := 4) (oi := { dst := some 64, op := Op.binOp BinOp.neq 26 (Operand.tmp 63) (Operand.const (Value.pointer none)) 26, type := 4, pos := "more.go:26", after := #[{ on := 3, ground := Ground.data }, { on := 2, ground := Ground.guard }], guard := some (2, true) }) (v := .bool true) rfl (by kernel_rfl) (by kernel_rfl) (by kernel_rfl) (fun _ _ _ h => h) (Or.inl ⟨by rfl, fun w hSw => by go_simp⟩) (by assumption) ?_
      try simp only [Act.put, List.setIfInBounds_toArray, List.set_cons_zero, List.set_cons_succ]
      refine wpAnyH_take (i := 5) (oi := { dst := some 65, op := Op.pick (Operand.tmp 62) (Operand.tmp 64) (Operand.const (Value.bool false)), type := 4, pos := "more.go:26", after := #[{ on := 2, ground := Ground.data }, { on := 4, ground := Ground.data }], guard := none }) (v := .bool true) rfl (by kernel_rfl) (by kernel_rfl) (by kernel_rfl) (fun _ _ _ h => h) (Or.inl ⟨by rfl, fun w hSw => by go_simp⟩) (by assumption) ?_
      try simp only [Act.put, List.setIfInBounds_toArray, List.set_cons_zero, List.set_cons_succ]
      refine wpAnyH_take (i := 6) (oi := { dst := some 66, op := Op.move (Operand.tmp 65), type := 4, pos := "more.go:26", after := #[{ on := 5, ground := Ground.data }, { on := 2, ground := Ground.chain }], guard := none }) (v := .bool true) rfl (by kernel_rfl) (by kernel_rfl) (by kernel_rfl) (fun _ _ _ h => h) (Or.inl ⟨by rfl, fun w hSw => by go_simp⟩) (by assumption) ?_
      try simp only [Act.put, List.setIfInBounds_toArray, List.set_cons_zero, List.set_cons_succ]
      refine wpAnyH_take (i := 7) (oi := { dst := some 67, op := Op.move (Operand.tmp 8), type := 26, pos := "more.go:26", after := #[{ on := 6, ground := Ground.guard }], guard := some (6, true) }) (v := .pointer (some ⟨q2, 0, none⟩)) rfl (by kernel_rfl) (by kernel_rfl) (by kernel_rfl) (fun _ _ _ h => h) (Or.inl ⟨by rfl, fun w hSw => by go_simp⟩) (by assumption) ?_
      try simp only [Act.put, List.setIfInBounds_toArray, List.set_cons_zero, List.set_cons_succ]
      refine wpAnyH_take (i := 10) (oi := { dst := some 70, op := Op.move (Operand.tmp 11), type := 26, pos := "more.go:26", after := #[{ on := 6, ground := Ground.guard }], guard := some (6, true) }) (v := .pointer (some ⟨q3, 0, none⟩)) rfl (by kernel_rfl) (by kernel_rfl) (by kernel_rfl) (fun _ _ _ h => h) (Or.inl ⟨by rfl, fun w hSw => by go_simp⟩) (by assumption) ?_
      try simp only [Act.put, List.setIfInBounds_toArray, List.set_cons_zero, List.set_cons_succ]
      refine wpAnyH_ready (rs := [8]) (by kernel_rfl) (by simp) ?_
      refine AllReadyH.cons (o := { dst := some 68, op := Op.call { callee := Callee.value (Operand.func 19), args := #[Operand.tmp 67], argTypes := #[26] }, type := 56, pos := "more.go:26", after := #[{ on := 7, ground := Ground.data }, { on := 6, ground := Ground.chain }, { on := 6, ground := Ground.guard }], guard := some (6, true) }) rfl (fun K hK => ?_) AllReadyH.nil
      go_simp
      with_reducible refine (HEN.out _ _ _ _ HW.out.2.1).mono ?_
      rintro e w8 ⟨u8, rfl, O8, B8⟩
      obtain ⟨A8, c8, hu8, hrd8, -, -⟩ := O8.form
      obtain ⟨m8, hm8⟩ : ∃ m, m = y.length := ⟨_, rfl⟩
      rw [← hm8] at hu8
      subst hu8
      have HC8 := Lib.hid (And.intro hrd8 hm8)
      replace HW := Lib.hid (And.intro (HW.out.1.kept B8) (And.intro (HW.out.2.1.kept B8) (HW.out.2.2.trans (B8.mono HW.out.2.2.size))))
      refine hK.out _ _ (trivial) (fun hHeld => ?_)
      clear hK K
      try simp only [Act.put, List.setIfInBounds_toArray, List.set_cons_zero, List.set_cons_succ]
      clear O8 hrd8 hm8
      refine wpAnyH_ready (rs := [9, 11]) (by kernel_rfl) (by simp) ?_
      refine (AllReadyH.cons (o := { dst := some 69, op := Op.convert 56 9 (Operand.tmp 68), type := 9, pos := "more.go:26", after := #[{ on := 8, ground := Ground.data }, { on := 6, ground := Ground.guard }], guard := some (6, true) }) rfl (fun K hK => ?_) (AllReadyH.cons (o := { dst := some 71, op := Op.call { callee := Callee.value (Operand.func 19), args := #[Operand.tmp 70], argTypes := #[26] }, type := 56, pos := "more.go:26", after := #[{ on := 10, ground := Ground.data }, { on := 8, ground := Ground.chain }, { on := 6, ground := Ground.guard }], guard := some (6, true) }) rfl (fun K hK => ?_) AllReadyH.nil))
      · have hc := conv_any HC8.out.1 m8 c8 HC8.out.2
        go_simp
        refine hK.out _ _ (trivial) (fun hHeld => ?_)
        clear hK K
        try simp only [Act.put, List.setIfInBounds_toArray, List.set_cons_zero, List.set_cons_succ]
        clear hc
        refine wpAnyH_ready (rs := [11]) (by kernel_rfl) (by simp) ?_
        refine AllReadyH.cons (o := { dst := some 71, op := Op.call { callee := Callee.value (Operand.func 19), args := #[Operand.tmp 70], argTypes := #[26] }, type := 56, pos := "more.go:26", after := #[{ on := 10, ground := Ground.data }, { on := 8, ground := Ground.chain }, { on := 6, ground := Ground.guard }], guard := some (6, true) }) rfl (fun K hK => ?_) AllReadyH.nil
        go_simp
        with_reducible refine (HEN.out _ _ _ _ HW.out.1).mono ?_
        rintro e w11 ⟨u11, rfl, O11, B11⟩
        obtain ⟨A11, c11, hu11, hrd11, -, -⟩ := O11.form
        obtain ⟨m11, hm11⟩ : ∃ m, m = y.length := ⟨_, rfl⟩
        rw [← hm11] at hu11
        subst hu11
        have HC11 := Lib.hid (And.intro hrd11 hm11)
        replace HW := Lib.hid (And.intro (HW.out.1.kept B11) (And.intro (HW.out.2.1.kept B11) (HW.out.2.2.trans (B11.mono HW.out.2.2.size))))
        replace HC8 := Lib.hid (And.intro (HC8.out.1.below B11 (Nat.le_refl _)) HC8.out.2)
        refine hK.out _ _ (trivial) (fun hHeld => ?_)
        clear hK K
        try simp only [Act.put, List.setIfInBounds_toArray, List.set_cons_zero, List.set_cons_succ]
        clear O11 hrd11 hm11
        refine wpAnyH_ready (rs := [12]) (by kernel_rfl) (by simp) ?_
        refine AllReadyH.cons (o := { dst := some 72, op := Op.convert 56 9 (Operand.tmp 71), type := 9, pos := "more.go:26", after := #[{ on := 11, ground := Ground.data }, { on := 6, ground := Ground.guard }], guard := some (6, true) }) rfl (fun K hK => ?_) AllReadyH.nil
        have hc2 := conv_any HC11.out.1 m11 c11 HC11.out.2
        go_simp
        refine hK.out _ _ (trivial) (fun hHeld => ?_)
        clear hK K
        try simp only [Act.put, List.setIfInBounds_toArray, List.set_cons_zero, List.set_cons_succ]
        refine wpAnyH_take (i := 13) (oi := { dst := some 73, op := Op.binOp BinOp.eql 9 (Operand.tmp 69) (Operand.tmp 72) 9, type := 4, pos := "more.go:26", after := #[{ on := 9, ground := Ground.data }, { on := 12, ground := Ground.data }, { on := 6, ground := Ground.guard }], guard := some (6, true) }) (v := .bool true) rfl (by kernel_rfl) (by kernel_rfl) (by kernel_rfl) (fun _ _ _ h => h) (Or.inl ⟨by rfl, fun w hSw => by go_simp⟩) (by assumption) ?_
        try simp only [Act.put, List.setIfInBounds_toArray, List.set_cons_zero, List.set_cons_succ]
        refine wpAnyH_take (i := 14) (oi := { dst := some 74, op := Op.pick (Operand.tmp 66) (Operand.tmp 73) (Operand.const (Value.bool false)), type := 4, pos := "more.go:26", after := #[{ on := 6, ground := Ground.data }, { on := 13, ground := Ground.data }], guard := none }) (v := .bool true) rfl (by kernel_rfl) (by kernel_rfl) (by kernel_rfl) (fun _ _ _ h => h) (Or.inl ⟨by rfl, fun w hSw => by go_simp⟩) (by assumption) ?_
        try simp only [Act.put, List.setIfInBounds_toArray, List.set_cons_zero, List.set_cons_succ]
        refine wpAnyH_take (i := 15) (oi := { dst := some 4, op := Op.assign (Operand.tmp 74), type := 4, pos := "more.go:26", after := #[{ on := 14, ground := Ground.data }, { on := 11, ground := Ground.chain }, { on := 0, ground := Ground.phase }, { on := 1, ground := Ground.phase }, { on := 2, ground := Ground.phase }, { on := 3, ground := Ground.phase }, { on := 4, ground := Ground.phase }, { on := 5, ground := Ground.phase }, { on := 6, ground := Ground.phase }, { on := 7, ground := Ground.phase }, { on := 8, ground := Ground.phase }, { on := 9, ground := Ground.phase }, { on := 10, ground := Ground.phase }, { on := 11, ground := Ground.phase }, { on := 12, ground := Ground.phase }, { on := 13, ground := Ground.phase }, { on := 14, ground := Ground.phase }], guard := none }) (v := .bool true) rfl (by kernel_rfl) (by kernel_rfl) (by kernel_rfl) (fun _ _ _ h => h) (Or.inl ⟨by rfl, fun w hSw => by go_simp⟩) (by assumption) ?_
        try simp only [Act.put, List.setIfInBounds_toArray, List.set_cons_zero, List.set_cons_succ]
        refine wpAnyH_done (by kernel_rfl) ?_ _
        try unfold NoPanic
        go_wp2
        go_ret
        exact ⟨rfl, HE1.out.2.2.2.trans (HW.out.2.2.mono HE1.out.2.2.2.size)⟩
      · go_simp
        with_reducible refine (HEN.out _ _ _ _ HW.out.1).mono ?_
        rintro e w11 ⟨u11, rfl, O11, B11⟩
        obtain ⟨A11, c11, hu11, hrd11, -, -⟩ := O11.form
        obtain ⟨m11, hm11⟩ : ∃ m, m = y.length := ⟨_, rfl⟩
        rw [← hm11] at hu11
        subst hu11
        have HC11 := Lib.hid (And.intro hrd11 hm11)
        replace HW := Lib.hid (And.intro (HW.out.1.kept B11) (And.intro (HW.out.2.1.kept B11) (HW.out.2.2.trans (B11.mono HW.out.2.2.size))))
        replace HC8 := Lib.hid (And.intro (HC8.out.1.below B11 (Nat.le_refl _)) HC8.out.2)
        refine hK.out _ _ (trivial) (fun hHeld => ?_)
        clear hK K
        try simp only [Act.put, List.setIfInBounds_toArray, List.set_cons_zero, List.set_cons_succ]
        clear O11 hrd11 hm11
        refine wpAnyH_ready (rs := [9, 12]) (by kernel_rfl) (by simp) ?_
        refine (AllReadyH.cons (o := { dst := some 69, op := Op.convert 56 9 (Operand.tmp 68), type := 9, pos := "more.go:26", after := #[{ on := 8, ground := Ground.data }, { on := 6, ground := Ground.guard }], guard := some (6, true) }) rfl (fun K hK => ?_) (AllReadyH.cons (o := { dst := some 72, op := Op.convert 56 9 (Operand.tmp 71), type := 9, pos := "more.go:26", after := #[{ on := 11, ground := Ground.data }, { on := 6, ground := Ground.guard }], guard := some (6, true) }) rfl (fun K hK => ?_) AllReadyH.nil))
        · have hc := conv_any HC8.out.1 m8 c8 HC8.out.2
          go_simp
          refine hK.out _ _ (trivial) (fun hHeld => ?_)
          clear hK K
          try simp only [Act.put, List.setIfInBounds_toArray, List.set_cons_zero, List.set_cons_succ]
          clear hc
          refine wpAnyH_ready (rs := [12]) (by kernel_rfl) (by simp) ?_
          refine AllReadyH.cons (o := { dst := some 72, op := Op.convert 56 9 (Operand.tmp 71), type := 9, pos := "more.go:26", after := #[{ on := 11, ground := Ground.data }, { on := 6, ground := Ground.guard }], guard := some (6, true) }) rfl (fun K hK => ?_) AllReadyH.nil
          have hc2 := conv_any HC11.out.1 m11 c11 HC11.out.2
          go_simp
          refine hK.out _ _ (trivial) (fun hHeld => ?_)
          clear hK K
          try simp only [Act.put, List.setIfInBounds_toArray, List.set_cons_zero, List.set_cons_succ]
          refine wpAnyH_take (i := 13) (oi := { dst := some 73, op := Op.binOp BinOp.eql 9 (Operand.tmp 69) (Operand.tmp 72) 9, type := 4, pos := "more.go:26", after := #[{ on := 9, ground := Ground.data }, { on := 12, ground := Ground.data }, { on := 6, ground := Ground.guard }], guard := some (6, true) }) (v := .bool true) rfl (by kernel_rfl) (by kernel_rfl) (by kernel_rfl) (fun _ _ _ h => h) (Or.inl ⟨by rfl, fun w hSw => by go_simp⟩) (by assumption) ?_
          try simp only [Act.put, List.setIfInBounds_toArray, List.set_cons_zero, List.set_cons_succ]
          refine wpAnyH_take (i := 14) (oi := { dst := some 74, op := Op.pick (Operand.tmp 66) (Operand.tmp 73) (Operand.const (Value.bool false)), type := 4, pos := "more.go:26", after := #[{ on := 6, ground := Ground.data }, { on := 13, ground := Ground.data }], guard := none }) (v := .bool true) rfl (by kernel_rfl) (by kernel_rfl) (by kernel_rfl) (fun _ _ _ h => h) (Or.inl ⟨by rfl, fun w hSw => by go_simp⟩) (by assumption) ?_
          try simp only [Act.put, List.setIfInBounds_toArray, List.set_cons_zero, List.set_cons_succ]
          refine wpAnyH_take (i := 15) (oi := { dst := some 4, op := Op.assign (Operand.tmp 74), type := 4, pos := "more.go:26", after := #[{ on := 14, ground := Ground.data }, { on := 11, ground := Ground.chain }, { on := 0, ground := Ground.phase }, { on := 1, ground := Ground.phase }, { on := 2, ground := Ground.phase }, { on := 3, ground := Ground.phase }, { on := 4, ground := Ground.phase }, { on := 5, ground := Ground.phase }, { on := 6, ground := Ground.phase }, { on := 7, ground := Ground.phase }, { on := 8, ground := Ground.phase }, { on := 9, ground := Ground.phase }, { on := 10, ground := Ground.phase }, { on := 11, ground := Ground.phase }, { on := 12, ground := Ground.phase }, { on := 13, ground := Ground.phase }, { on := 14, ground := Ground.phase }], guard := none }) (v := .bool true) rfl (by kernel_rfl) (by kernel_rfl) (by kernel_rfl) (fun _ _ _ h => h) (Or.inl ⟨by rfl, fun w hSw => by go_simp⟩) (by assumption) ?_
          try simp only [Act.put, List.setIfInBounds_toArray, List.set_cons_zero, List.set_cons_succ]
          refine wpAnyH_done (by kernel_rfl) ?_ _
          try unfold NoPanic
          go_wp2
          go_ret
          exact ⟨rfl, HE1.out.2.2.2.trans (HW.out.2.2.mono HE1.out.2.2.2.size)⟩
        · have hc2 := conv_any HC11.out.1 m11 c11 HC11.out.2
          go_simp
          refine hK.out _ _ (trivial) (fun hHeld => ?_)
          clear hK K
          try simp only [Act.put, List.setIfInBounds_toArray, List.set_cons_zero, List.set_cons_succ]
          refine wpAnyH_ready (rs := [9]) (by kernel_rfl) (by simp) ?_
          refine AllReadyH.cons (o := { dst := some 69, op := Op.convert 56 9 (Operand.tmp 68), type := 9, pos := "more.go:26", after := #[{ on := 8, ground := Ground.data }, { on := 6, ground := Ground.guard }], guard := some (6, true) }) rfl (fun K hK => ?_) AllReadyH.nil
          have hc := conv_any HC8.out.1 m8 c8 HC8.out.2
          go_simp
          refine hK.out _ _ (trivial) (fun hHeld => ?_)
          clear hK K
          try simp only [Act.put, List.setIfInBounds_toArray, List.set_cons_zero, List.set_cons_succ]
          clear hc
          refine wpAnyH_take (i := 13) (oi := { dst := some 73, op := Op.binOp BinOp.eql 9 (Operand.tmp 69) (Operand.tmp 72) 9, type := 4, pos := "more.go:26", after := #[{ on := 9, ground := Ground.data }, { on := 12, ground := Ground.data }, { on := 6, ground := Ground.guard }], guard := some (6, true) }) (v := .bool true) rfl (by kernel_rfl) (by kernel_rfl) (by kernel_rfl) (fun _ _ _ h => h) (Or.inl ⟨by rfl, fun w hSw => by go_simp⟩) (by assumption) ?_
          try simp only [Act.put, List.setIfInBounds_toArray, List.set_cons_zero, List.set_cons_succ]
          refine wpAnyH_take (i := 14) (oi := { dst := some 74, op := Op.pick (Operand.tmp 66) (Operand.tmp 73) (Operand.const (Value.bool false)), type := 4, pos := "more.go:26", after := #[{ on := 6, ground := Ground.data }, { on := 13, ground := Ground.data }], guard := none }) (v := .bool true) rfl (by kernel_rfl) (by kernel_rfl) (by kernel_rfl) (fun _ _ _ h => h) (Or.inl ⟨by rfl, fun w hSw => by go_simp⟩) (by assumption) ?_
          try simp only [Act.put, List.setIfInBounds_toArray, List.set_cons_zero, List.set_cons_succ]
          refine wpAnyH_take (i := 15) (oi := { dst := some 4, op := Op.assign (Operand.tmp 74), type := 4, pos := "more.go:26", after := #[{ on := 14, ground := Ground.data }, { on := 11, ground := Ground.chain }, { on := 0, ground := Ground.phase }, { on := 1, ground := Ground.phase }, { on := 2, ground := Ground.phase }, { on := 3, ground := Ground.phase }, { on := 4, ground := Ground.phase }, { on := 5, ground := Ground.phase }, { on := 6, ground := Ground.phase }, { on := 7, ground := Ground.phase }, { on := 8, ground := Ground.phase }, { on := 9, ground := Ground.phase }, { on := 10, ground := Ground.phase }, { on := 11, ground := Ground.phase }, { on := 12, ground := Ground.phase }, { on := 13, ground := Ground.phase }, { on := 14, ground := Ground.phase }], guard := none }) (v := .bool true) rfl (by kernel_rfl) (by kernel_rfl) (by kernel_rfl) (fun _ _ _ h => h) (Or.inl ⟨by rfl, fun w hSw => by go_simp⟩) (by assumption) ?_
          try simp only [Act.put, List.setIfInBounds_toArray, List.set_cons_zero, List.set_cons_succ]
          refine wpAnyH_done (by kernel_rfl) ?_ _
          try unfold NoPanic
          go_wp2
          go_ret
          exact ⟨rfl, HE1.out.2.2.2.trans (HW.out.2.2.mono HE1.out.2.2.2.size)⟩

set_option maxRecDepth 100000 in
theorem lifted (os : Os) (started : os.Started) (H : Type) (enc : TypeId × Value → H) :
    ReturnsInHanded {} Try.checked os 5 .any (Rows.tablePartsSpec.pre6 enc Try.prog Try.f5 Rows.tablePartsRow.domain false) (Rows.tablePartsSpec.post enc Try.prog Try.f5 false true false false) := by
  refine returnsInHanded_of_change (C := Try.checked) own started (by kernel_rfl) Try.func5
    (ChangeSpec.witness6 (enc := enc) (C := Try.checked) false ⟨#[], #[.slice none 0 0, .int .u8 0], []⟩ 8 (by kernel_rfl) (by kernel_rfl) (by kernel_rfl) (by kernel_rfl)) ?_
  intro W base args ds gs before hval0 hW hcnd _
  have hval : ∀ (j : Nat) t v, Try.f5.params[j]? = some t → args[j]? = some v → Value.okWide Try.prog W .any base t v := hval0
  have hW' := hW
  obtain ⟨p, q, hA0, hV, rfl, hfz, hnd⟩ := hW
  have hA : DataW.TrodAll enc Try.prog W 0 (fun _ => true) true Try.f5.params.toList args.toList ds p := hA0
  rw [Try.params5] at hA hval
  obtain ⟨v0, vs0, d0, ds0, p0, q0, hargs, rfl, rfl, h0, r0⟩ := trodAll_cons hA
  obtain ⟨v1, vs1, d1, ds1, p1, q1, rfl, rfl, rfl, h1, r1⟩ := trodAll_cons r0
  obtain ⟨rfl, rfl, rfl⟩ := trodAll_nil r1
  obtain rfl : args = #[v0, v1] := by cases args; simp_all
  obtain ⟨rfl, rfl⟩ := trodVars_none hV
  obtain ⟨a0, len0, cap0, rfl⟩ := okWide_slice Try.underlying22 (hval 0 22 v0 rfl rfl)
  have k0 := h0
  have lt0 : ∀ x ∈ p0, x.block < W.heap.size := by obtain ⟨m, hm⟩ := k0; exact DataW.trod_lt m _ _ _ hm
  obtain ⟨z0, w0⟩ : ∃ zs, IsActs W a0 len0 cap0 zs := by
    obtain ⟨fuel, hf⟩ := h0
    obtain ⟨a, l, c, ds, hcs, hds⟩ := acts_of hf
    simp [Value.cells] at hcs
    obtain ⟨rfl, rfl, rfl⟩ := hcs
    exact ⟨ds, hds⟩
  obtain ⟨a1, rfl, rfl, rfl, w1⟩ := open_int Try.underlying5 (hval 1 5 v1 rfl rfl) h1
  clear hA0 hval0
  refine (walk a0 len0 cap0 z0 a1 W w0 w1).mono fun e W' ⟨he, bel⟩ => ?_
  subst he
  exact ⟨_, rfl, _, _, _, [], _, [], hW', trodAll_mk1 (shut_bool Try.underlying4 _), (trodAll_cons_mk (Below.trod laidOut (by kernel_rfl) (of_decide_eq_true (by kernel_rfl)) k0 bel lt0) (trodAll_cons_mk (shut_int Try.underlying5 w1) trodAll_mk0)), rfl, bel.frame _, fun h => by cases h⟩

theorem over : Rows.tablePartsRow.holds Try.pinned (OpenSpec.ofChange Rows.tablePartsSpec) :=
  OpenClaim.holds_of_wide 5 Try.f5 rfl rfl rfl rfl rfl rfl rfl ⟨rfl, rfl, rfl, rfl, rfl⟩ rfl rfl rfl rfl rfl (by kernel_rfl) Try.func5 (by kernel_rfl)
    (of_decide_eq_true (by kernel_rfl)) (by unfold Func.isWrapper; first | (rw [if_pos (by decide +kernel)]; kernel_rfl) | (rw [if_neg (by decide +kernel)]; exact ⟨rfl, rfl⟩))
    (fun os started H enc _ => lifted os started H enc)

theorem proved : Rows.TablePartsSaid := over
#print axioms proved
end Go.Proofs.Ytcgncecjbkpmkaa.tableParts
