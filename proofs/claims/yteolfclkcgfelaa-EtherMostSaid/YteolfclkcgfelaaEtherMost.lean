/-
  'For every input the Go function milestonelaw19.EtherMost returns true, and each argument reads behind the call as it read before.'
  Conditions: none but the row's own (linux/amd64, sizes of what is read within the address space).
-/
import Derived.Test.YteolfclkcgfelaaRows
import Derived.WalkKit
import Derived.ProofKit
import Derived.OpenShut
import Derived.ShutString
import Derived.ChangeOld
import Derived.Below
import Derived.Lib.SmallJoins
import Derived.Lib.Hide
import Derived.Test.YteolfclkcgfelaaEm
import Derived.Deep.RegionHeld3
namespace Go.Proofs.Yteolfclkcgfelaa.etherMost
open Eth
open Coin
open Go.ChangeShapes Go.WideShapes Go.ChangeAt Go.RowKit
open Go.ChangeMaps (open_string shut_string)
set_option linter.unusedVariables false

theorem own : ownKnob Try.prog.godebug = none := by kernel_rfl
theorem laidOut : laidOutB Try.prog = true := by kernel_rfl

set_option maxRecDepth 8000
theorem walk (a0 : Int) (w : World) (w0 : (Lit.int .u16 a0).wf = true) :
    Calls Try.prog 4 #[.int .u16 a0] w fun e w' => e = .returned (.bool true) ∧ Below w.heap.size w w' := by
  have b0 := bounds_u16 w0
  obtain ⟨n, rfl⟩ := Int.eq_ofNat_of_zero_le b0.1
  obtain ⟨k, hk⟩ : ∃ k, k = 1000 + n % 100 := ⟨_, rfl⟩
  obtain ⟨r, hr⟩ : ∃ r, r = n % 100 := ⟨_, rfl⟩
  have e0 : (n : Int).tmod 100 = (r : Int) := by rw [hr, Int.tmod_eq_emod_of_nonneg (by omega)]; omega
  have e1 : (1000 : Int) + (r : Int) = (k : Int) := by omega
  have e2 : IntKind.i64.wrap (n : Int) = (n : Int) := by rw [IntKind.wrap_i64]; omega
  have hk11 : k < 1100 := by omega
  have hk10 : 1000 ≤ k := by omega
  have hr1 : r < 100 := by omega
  obtain ⟨s, hs⟩ : ∃ s, s = k - 1024 := ⟨_, rfl⟩
  have hs76 : s < 76 := by omega
  clear b0 hk hr w0
  have HJ : Hid (∀ W g, LW w.heap.size w W g H0 [] (.slice none 0 0) → Calls Try.prog 8 #[.pointer (some ⟨g, 0, none⟩), .int .i64 0, .int .i64 1, .bool true] W fun e w' => e = .returned (.int .i64 0) ∧ LW w.heap.size w w' g H1 [] (.slice none 0 0)) := Lib.hid fun W g h =>
    (join_lw h 0 1 (by decide) (by decide) (by decide) true).mono fun e w' ⟨h1, h2, h3⟩ => ⟨h1, h2⟩
  have HP : Hid (∀ W g v, LW w.heap.size w W g H1 (Lw k) v → Calls Try.prog 11 #[.pointer (some ⟨g, 0, none⟩), .int .i64 0] W fun e w' => ∃ u, e = .returned (.tuple #[.agg #[.int .i64 0, .int .i64 1, u], .int .i64 0]) ∧ Own w' W.heap.size u [UInt8.ofNat s, UInt8.ofNat (s / 256)] ∧ Below W.heap.size W w') := Lib.hid fun W g v h => by
    have hl := Lw_len k
    have hn : 0 < (Lw k).length := by omega
    refine (Peek_any h.e hn (by omega) (Lw_d k) 0).mono ?_
    rintro e w' ⟨u, h1, h2, h3⟩
    have hz := plc_zero (Lw k).length
    have hh := Lw_head k hn
    simp only [hz, hh, ← hs] at h1 h2
    exact ⟨u, h1, h2, h3⟩
  go_enter Try.func4, Try.ntmps4
  go_upto_region 7 with (first
    | (go_at_call 7; (with_reducible refine (awake_any _).mono ?_); rintro e wa ⟨rfl, ha⟩; have L0 := Lib.hid (LW.new ha ha.size); clear ha)
    | (refine arm_build rfl rfl ?_)
    | (refine arm_box rfl _ rfl rfl ?_)
    | (go_at_call 8; (with_reducible refine (HJ.out _ _ L0.out).mono ?_); rintro e w1 ⟨rfl, h1⟩; have L1 := Lib.hid h1; clear h1))
  clear L0 HJ
  generalize wa.heap.size = g at *
  go_loopw [5] (fun v5 wr => ∃ j : Nat, j ≤ k ∧ v5 = .int .i64 (j : Int) ∧ Hid (∃ v, LW w.heap.size w wr g H1 (Lw j) v)) (fun v5 _ => k - (intOf v5).toNat)
  case atStart => exact ⟨0, Nat.zero_le _, rfl, _, L1.out⟩
  case round =>
    obtain ⟨j, hj, rfl, HL⟩ := hrel
    clear L1
    rcases Nat.lt_or_ge j k with hlt | hge
    · have hlt' : (j : Int) < k := by omega
      have hw : IntKind.u8.wrap (j : Int) = ((j % 256 : Nat) : Int) := by rw [IntKind.wrap_u8]; omega
      have hsh : (j : Int) / 256 = ((j / 256 : Nat) : Int) := by omega
      have hw2 : IntKind.u8.wrap ((j / 256 : Nat) : Int) = ((j / 256 : Nat) : Int) := by rw [IntKind.wrap_u8]; omega
      obtain ⟨v, hv⟩ := HL.out
      generalize hx : j % 256 = x at *
      generalize hy : j / 256 = y at *
      have HV := Lib.hid (And.intro (hv.step ((Below.refl _ _).alloc (Nat.le_refl _) (.cells #[.int .u8 (x : Int), .int .u8 (y : Int)] 5))) (heap_alloc_new wr (.cells #[.int .u8 (x : Int), .int .u8 (y : Int)] 5)))
      have HS : Hid (∀ W g v b, LW w.heap.size w W g H1 (Lw j) v → W.heap[b]? = some (.cells #[.int .u8 (x : Int), .int .u8 (y : Int)] 5 (0, 0)) → Calls Try.prog 9 #[.pointer (some ⟨g, 0, none⟩), .int .i64 0, .slice (some ⟨b, 0, none⟩) 2 2] W fun e w' => ∃ z, e = .returned (.int .i64 z) ∧ ∃ v', LW w.heap.size w w' g H1 (Lw (j + 1)) v') := Lib.hid fun W g v b h hb => send_two j h (by omega) b (by rw [hx, hy]; exact hb)
      clear hv hx hy
      go_wp2_with (go_at_call 9; (with_reducible refine (HS.out _ _ _ _ HV.out.1 HV.out.2).mono ?_); rintro e w2 ⟨z, rfl, h2⟩; have H2 := Lib.hid h2; clear h2)
      go_roundw
      case rel => exact ⟨j + 1, hlt, by go_num, H2.out⟩
      case measure => simp [intOf]; omega
    · obtain rfl : j = k := by omega
      obtain ⟨v, hv⟩ := HL.out
      have HV := Lib.hid hv
      clear hv HL
      by_cases hbig : 1024 < j
      · skip
        have hkb : (1024 : Int) < j := by omega
        have hsk : (j : Int) - 1024 = (s : Int) := by omega
        have his : IntKind.i64.wrap (s : Int) = s := by rw [IntKind.wrap_i64]; omega
        have hi0 : IntKind.i64.wrap 0 = 0 := by decide
        have hs0 : s < 76 := by omega
        have HN : Hid (∀ W g v, LW w.heap.size w W g H1 (Lw j) v → Calls Try.prog 14 #[.pointer (some ⟨g, 0, none⟩)] W fun e w' => e = .returned (.int .i64 1024) ∧ W = w') := Lib.hid fun W g v h => by
          have := len_any h.e
          rw [Lw_len] at this
          rw [show min j 1024 = 1024 by omega] at this
          exact this
        clear hs
        go_upto_region 14 with (go_at_call 11; (with_reducible refine (HP.out _ _ _ HV.out).mono ?_); rintro e w2 ⟨u, rfl, O2, B2⟩; obtain ⟨b, c, hu, d0, d1, hbl⟩ := own_cell2 O2; subst hu; rw [Coin.b8_small s (by omega)] at d0; rw [Coin.b8_small (s / 256) (by omega), show s / 256 = 0 by omega] at d1; have BA := (Below.refl w2.heap.size w2).alloc (Nat.le_refl _) (.cells #[.int .i64 0, .int .i64 1, .slice (some ⟨b, 0, none⟩) 2 c] 39); have hzl := heap_alloc_new w2 (.cells #[.int .i64 0, .int .i64 1, .slice (some ⟨b, 0, none⟩) 2 c] 39); obtain ⟨z0, z1, z2, zf⟩ := row3f hzl; obtain ⟨y0, y1, y2, yf⟩ := row3f (heap_alloc_new w2 (.cells #[.int .i64 0, .int .i64 0, .slice none 0 0] 39)); have HZ := Lib.hid (And.intro hzl (And.intro ((BA.cell (p := ⟨b, 0, none⟩) hbl).trans d0) (And.intro ((BA.cell (p := ⟨b, 1, none⟩) hbl).trans d1) (And.intro (Array.getElem?_eq_some_iff.1 hzl).1 (Nat.lt_of_lt_of_le hbl BA.size))))); have HV2 := Lib.hid ((HV.out.step B2).step BA); clear O2 B2 d0 d1 hbl BA hzl)
        clear z0 z1 z2 zf y0 y1 y2 yf HV
        have HV := HV2
        clear HV2 HP
        generalize w2.alloc _ = w3 at *
        generalize w2.heap.size = z at *
        refine wp_region_noPanic ?_
        refine wp_region_held_drew (S := fun y9 : World => Below w3.heap.size w3 y9) (by kernel_rfl) ((Below.refl _ _).drew) (fun hHeld => ?_)
        generalize w3.drew = wd at *
        refine wpAnyH_take (i := 0) (oi := { dst := some 40, op := Op.move (Operand.tmp 3), type := 24, pos := "law.go:113", after := #[], guard := none }) (v := .pointer (some ⟨g, 0, none⟩)) rfl (by kernel_rfl) (by kernel_rfl) (by kernel_rfl) (fun _ _ _ h => h) (Or.inl ⟨by rfl, fun w hSw => by go_simp⟩) (by assumption) ?_
        try simp only [Act.put, List.setIfInBounds_toArray, List.set_cons_zero, List.set_cons_succ]
        refine wpAnyH_take (i := 2) (oi := { dst := some 42, op := Op.move (Operand.tmp 6), type := 3, pos := "law.go:113", after := #[], guard := none }) (v := .int .i64 1024) rfl (by kernel_rfl) (by kernel_rfl) (by kernel_rfl) (fun _ _ _ h => h) (Or.inl ⟨by rfl, fun w hSw => by go_simp⟩) (by assumption) ?_
        try simp only [Act.put, List.setIfInBounds_toArray, List.set_cons_zero, List.set_cons_succ]
        refine wpAnyH_ready (rs := [1]) (by kernel_rfl) (by simp) ?_
        refine (AllReadyH.cons (o := { dst := some 41, op := Op.call { callee := Callee.value (Operand.func 14), args := #[Operand.tmp 40], argTypes := #[24] }, type := 3, pos := "law.go:113", after := #[{ on := 0, ground := Ground.data }], guard := none }) rfl (fun K hK => ?_) AllReadyH.nil)
        go_simp
        with_reducible refine (HN.out _ _ _ (HV.out.step hHeld)).mono ?_
        rintro e w5 ⟨rfl, rfl⟩
        refine hK.out _ _ (hHeld) (fun hHeld2 => ?_)
        clear hK K hHeld
        have hHeld := hHeld2
        clear hHeld2
        try simp only [Act.put, List.setIfInBounds_toArray, List.set_cons_zero, List.set_cons_succ]
        refine wpAnyH_take (i := 3) (oi := { dst := some 43, op := Op.binOp BinOp.eql 3 (Operand.tmp 41) (Operand.tmp 42) 3, type := 4, pos := "law.go:113", after := #[{ on := 1, ground := Ground.data }, { on := 2, ground := Ground.data }], guard := none }) (v := .bool true) rfl (by kernel_rfl) (by kernel_rfl) (by kernel_rfl) (fun _ _ _ h => h) (Or.inl ⟨by rfl, fun w hSw => by go_simp⟩) (by assumption) ?_
        try simp only [Act.put, List.setIfInBounds_toArray, List.set_cons_zero, List.set_cons_succ]
        refine wpAnyH_take (i := 4) (oi := { dst := some 44, op := Op.move (Operand.tmp 43), type := 4, pos := "law.go:113", after := #[{ on := 3, ground := Ground.data }, { on := 1, ground := Ground.chain }], guard := none }) (v := .bool true) rfl (by kernel_rfl) (by kernel_rfl) (by kernel_rfl) (fun _ _ _ h => h) (Or.inl ⟨by rfl, fun w hSw => by go_simp⟩) (by assumption) ?_
        try simp only [Act.put, List.setIfInBounds_toArray, List.set_cons_zero, List.set_cons_succ]
        refine wpAnyH_take (i := 5) (oi := { dst := some 45, op := Op.move (Operand.tmp 8), type := 35, pos := "law.go:113", after := #[{ on := 4, ground := Ground.guard }], guard := some (4, true) }) (v := .int .i64 0) rfl (by kernel_rfl) (by kernel_rfl) (by kernel_rfl) (fun _ _ _ h => h) (Or.inl ⟨by rfl, fun w hSw => by go_simp⟩) (by assumption) ?_
        try simp only [Act.put, List.setIfInBounds_toArray, List.set_cons_zero, List.set_cons_succ]
        refine wpAnyH_take (i := 6) (oi := { dst := some 46, op := Op.binOp BinOp.eql 35 (Operand.tmp 45) (Operand.const (Value.int IntKind.i64 0)) 35, type := 4, pos := "law.go:113", after := #[{ on := 5, ground := Ground.data }, { on := 4, ground := Ground.guard }], guard := some (4, true) }) (v := .bool true) rfl (by kernel_rfl) (by kernel_rfl) (by kernel_rfl) (fun _ _ _ h => h) (Or.inl ⟨by rfl, fun w hSw => by go_simp⟩) (by assumption) ?_
        try simp only [Act.put, List.setIfInBounds_toArray, List.set_cons_zero, List.set_cons_succ]
        refine wpAnyH_take (i := 7) (oi := { dst := some 47, op := Op.pick (Operand.tmp 44) (Operand.tmp 46) (Operand.const (Value.bool false)), type := 4, pos := "law.go:113", after := #[{ on := 4, ground := Ground.data }, { on := 6, ground := Ground.data }], guard := none }) (v := .bool true) rfl (by kernel_rfl) (by kernel_rfl) (by kernel_rfl) (fun _ _ _ h => h) (Or.inl ⟨by rfl, fun w hSw => by go_simp⟩) (by assumption) ?_
        try simp only [Act.put, List.setIfInBounds_toArray, List.set_cons_zero, List.set_cons_succ]
        refine wpAnyH_take (i := 8) (oi := { dst := some 48, op := Op.move (Operand.tmp 47), type := 4, pos := "law.go:113", after := #[{ on := 7, ground := Ground.data }, { on := 4, ground := Ground.chain }], guard := none }) (v := .bool true) rfl (by kernel_rfl) (by kernel_rfl) (by kernel_rfl) (fun _ _ _ h => h) (Or.inl ⟨by rfl, fun w hSw => by go_simp⟩) (by assumption) ?_
        try simp only [Act.put, List.setIfInBounds_toArray, List.set_cons_zero, List.set_cons_succ]
        refine wpAnyH_take (i := 9) (oi := { dst := some 49, op := Op.fieldAddr 39 (Operand.tmp 7) 2, type := 0, pos := "law.go:113", after := #[{ on := 8, ground := Ground.guard }], guard := some (8, true) }) (v := .pointer (some ⟨z, 2, none⟩)) rfl (by kernel_rfl) (by kernel_rfl) (by kernel_rfl) (fun _ _ _ h => h) (Or.inl ⟨by rfl, fun w hSw => by go_simp⟩) (by assumption) ?_
        try simp only [Act.put, List.setIfInBounds_toArray, List.set_cons_zero, List.set_cons_succ]
        refine wpAnyH_take (i := 10) (oi := { dst := some 50, op := Op.load 37 (Operand.tmp 49), type := 37, pos := "law.go:113", after := #[{ on := 9, ground := Ground.data }, { on := 8, ground := Ground.guard }], guard := some (8, true) }) (v := .slice (some ⟨b, 0, none⟩) 2 c) rfl (by kernel_rfl) (by kernel_rfl) (by kernel_rfl) (fun _ _ _ h => h) (Or.inl ⟨by rfl, fun w hSw => by obtain ⟨z0, z1, z2, zf⟩ := row3f ((hSw.block _ HZ.out.2.2.2.1).trans HZ.out.1); go_simp⟩) (by assumption) ?_
        try simp only [Act.put, List.setIfInBounds_toArray, List.set_cons_zero, List.set_cons_succ]
        refine wpAnyH_take (i := 11) (oi := { dst := some 51, op := Op.indexAddr 37 (Operand.tmp 50) (Operand.const (Value.int IntKind.i64 0)), type := 0, pos := "law.go:113", after := #[{ on := 10, ground := Ground.data }, { on := 8, ground := Ground.guard }], guard := some (8, true) }) (v := .pointer (some ⟨b, 0, none⟩)) rfl (by kernel_rfl) (by kernel_rfl) (by kernel_rfl) (fun _ _ _ h => h) (Or.inl ⟨by rfl, fun w hSw => by go_simp⟩) (by assumption) ?_
        try simp only [Act.put, List.setIfInBounds_toArray, List.set_cons_zero, List.set_cons_succ]
        refine wpAnyH_take (i := 12) (oi := { dst := some 52, op := Op.load 5 (Operand.tmp 51), type := 5, pos := "law.go:113", after := #[{ on := 11, ground := Ground.data }, { on := 8, ground := Ground.guard }], guard := some (8, true) }) (v := .int .u8 (s : Int)) rfl (by kernel_rfl) (by kernel_rfl) (by kernel_rfl) (fun _ _ _ h => h) (Or.inl ⟨by rfl, fun w hSw => by have d0 := (hSw.cell (p := ⟨b, 0, none⟩) HZ.out.2.2.2.2).trans HZ.out.2.1; go_simp⟩) (by assumption) ?_
        try simp only [Act.put, List.setIfInBounds_toArray, List.set_cons_zero, List.set_cons_succ]
        refine wpAnyH_take (i := 13) (oi := { dst := some 53, op := Op.convert 5 3 (Operand.tmp 52), type := 3, pos := "law.go:113", after := #[{ on := 12, ground := Ground.data }, { on := 8, ground := Ground.guard }], guard := some (8, true) }) (v := .int .i64 (s : Int)) rfl (by kernel_rfl) (by kernel_rfl) (by kernel_rfl) (fun _ _ _ h => h) (Or.inl ⟨by rfl, fun w hSw => by go_simp⟩) (by assumption) ?_
        try simp only [Act.put, List.setIfInBounds_toArray, List.set_cons_zero, List.set_cons_succ]
        refine wpAnyH_take (i := 14) (oi := { dst := some 54, op := Op.fieldAddr 39 (Operand.tmp 7) 2, type := 0, pos := "law.go:113", after := #[{ on := 8, ground := Ground.guard }], guard := some (8, true) }) (v := .pointer (some ⟨z, 2, none⟩)) rfl (by kernel_rfl) (by kernel_rfl) (by kernel_rfl) (fun _ _ _ h => h) (Or.inl ⟨by rfl, fun w hSw => by go_simp⟩) (by assumption) ?_
        try simp only [Act.put, List.setIfInBounds_toArray, List.set_cons_zero, List.set_cons_succ]
        refine wpAnyH_take (i := 15) (oi := { dst := some 55, op := Op.load 37 (Operand.tmp 54), type := 37, pos := "law.go:113", after := #[{ on := 14, ground := Ground.data }, { on := 8, ground := Ground.guard }], guard := some (8, true) }) (v := .slice (some ⟨b, 0, none⟩) 2 c) rfl (by kernel_rfl) (by kernel_rfl) (by kernel_rfl) (fun _ _ _ h => h) (Or.inl ⟨by rfl, fun w hSw => by obtain ⟨z0, z1, z2, zf⟩ := row3f ((hSw.block _ HZ.out.2.2.2.1).trans HZ.out.1); go_simp⟩) (by assumption) ?_
        try simp only [Act.put, List.setIfInBounds_toArray, List.set_cons_zero, List.set_cons_succ]
        refine wpAnyH_take (i := 16) (oi := { dst := some 56, op := Op.indexAddr 37 (Operand.tmp 55) (Operand.const (Value.int IntKind.i64 1)), type := 0, pos := "law.go:113", after := #[{ on := 15, ground := Ground.data }, { on := 8, ground := Ground.guard }], guard := some (8, true) }) (v := .pointer (some ⟨b, 1, none⟩)) rfl (by kernel_rfl) (by kernel_rfl) (by kernel_rfl) (fun _ _ _ h => h) (Or.inl ⟨by rfl, fun w hSw => by go_simp⟩) (by assumption) ?_
        try simp only [Act.put, List.setIfInBounds_toArray, List.set_cons_zero, List.set_cons_succ]
        refine wpAnyH_take (i := 17) (oi := { dst := some 57, op := Op.load 5 (Operand.tmp 56), type := 5, pos := "law.go:113", after := #[{ on := 16, ground := Ground.data }, { on := 8, ground := Ground.guard }], guard := some (8, true) }) (v := .int .u8 0) rfl (by kernel_rfl) (by kernel_rfl) (by kernel_rfl) (fun _ _ _ h => h) (Or.inl ⟨by rfl, fun w hSw => by have d1 := (hSw.cell (p := ⟨b, 1, none⟩) HZ.out.2.2.2.2).trans HZ.out.2.2.1; go_simp⟩) (by assumption) ?_
        try simp only [Act.put, List.setIfInBounds_toArray, List.set_cons_zero, List.set_cons_succ]
        refine wpAnyH_take (i := 18) (oi := { dst := some 58, op := Op.convert 5 3 (Operand.tmp 57), type := 3, pos := "law.go:113", after := #[{ on := 17, ground := Ground.data }, { on := 8, ground := Ground.guard }], guard := some (8, true) }) (v := .int .i64 0) rfl (by kernel_rfl) (by kernel_rfl) (by kernel_rfl) (fun _ _ _ h => h) (Or.inl ⟨by rfl, fun w hSw => by go_simp⟩) (by assumption) ?_
        try simp only [Act.put, List.setIfInBounds_toArray, List.set_cons_zero, List.set_cons_succ]
        refine wpAnyH_take (i := 19) (oi := { dst := some 59, op := Op.binOp BinOp.shl 3 (Operand.tmp 58) (Operand.const (Value.int IntKind.u64 8)) 48, type := 3, pos := "law.go:113", after := #[{ on := 18, ground := Ground.data }, { on := 8, ground := Ground.guard }], guard := some (8, true) }) (v := .int .i64 0) rfl (by kernel_rfl) (by kernel_rfl) (by kernel_rfl) (fun _ _ _ h => h) (Or.inl ⟨by rfl, fun w hSw => by go_simp⟩) (by assumption) ?_
        try simp only [Act.put, List.setIfInBounds_toArray, List.set_cons_zero, List.set_cons_succ]
        refine wpAnyH_take (i := 20) (oi := { dst := some 60, op := Op.binOp BinOp.add 3 (Operand.tmp 53) (Operand.tmp 59) 3, type := 3, pos := "law.go:113", after := #[{ on := 13, ground := Ground.data }, { on := 19, ground := Ground.data }, { on := 8, ground := Ground.guard }], guard := some (8, true) }) (v := .int .i64 (s : Int)) rfl (by kernel_rfl) (by kernel_rfl) (by kernel_rfl) (fun _ _ _ h => h) (Or.inl ⟨by rfl, fun w hSw => by go_simp⟩) (by assumption) ?_
        try simp only [Act.put, List.setIfInBounds_toArray, List.set_cons_zero, List.set_cons_succ]
        refine wpAnyH_take (i := 21) (oi := { dst := some 61, op := Op.move (Operand.tmp 4), type := 3, pos := "law.go:113", after := #[{ on := 8, ground := Ground.guard }], guard := some (8, true) }) (v := .int .i64 (j : Int)) rfl (by kernel_rfl) (by kernel_rfl) (by kernel_rfl) (fun _ _ _ h => h) (Or.inl ⟨by rfl, fun w hSw => by go_simp⟩) (by assumption) ?_
        try simp only [Act.put, List.setIfInBounds_toArray, List.set_cons_zero, List.set_cons_succ]
        refine wpAnyH_take (i := 22) (oi := { dst := some 62, op := Op.move (Operand.tmp 6), type := 3, pos := "law.go:113", after := #[{ on := 8, ground := Ground.guard }], guard := some (8, true) }) (v := .int .i64 1024) rfl (by kernel_rfl) (by kernel_rfl) (by kernel_rfl) (fun _ _ _ h => h) (Or.inl ⟨by rfl, fun w hSw => by go_simp⟩) (by assumption) ?_
        try simp only [Act.put, List.setIfInBounds_toArray, List.set_cons_zero, List.set_cons_succ]
        refine wpAnyH_take (i := 23) (oi := { dst := some 63, op := Op.binOp BinOp.sub 3 (Operand.tmp 61) (Operand.tmp 62) 3, type := 3, pos := "law.go:113", after := #[{ on := 21, ground := Ground.data }, { on := 22, ground := Ground.data }, { on := 8, ground := Ground.guard }], guard := some (8, true) }) (v := .int .i64 (s : Int)) rfl (by kernel_rfl) (by kernel_rfl) (by kernel_rfl) (fun _ _ _ h => h) (Or.inl ⟨by rfl, fun w hSw => by go_simp⟩) (by assumption) ?_
        try simp only [Act.put, List.setIfInBounds_toArray, List.set_cons_zero, List.set_cons_succ]
        refine wpAnyH_take (i := 24) (oi := { dst := some 64, op := Op.binOp BinOp.eql 3 (Operand.tmp 60) (Operand.tmp 63) 3, type := 4, pos := "law.go:113", after := #[{ on := 20, ground := Ground.data }, { on := 23, ground := Ground.data }, { on := 8, ground := Ground.guard }], guard := some (8, true) }) (v := .bool true) rfl (by kernel_rfl) (by kernel_rfl) (by kernel_rfl) (fun _ _ _ h => h) (Or.inl ⟨by rfl, fun w hSw => by go_simp⟩) (by assumption) ?_
        try simp only [Act.put, List.setIfInBounds_toArray, List.set_cons_zero, List.set_cons_succ]
        refine wpAnyH_take (i := 25) (oi := { dst := some 65, op := Op.pick (Operand.tmp 48) (Operand.tmp 64) (Operand.const (Value.bool false)), type := 4, pos := "law.go:113", after := #[{ on := 8, ground := Ground.data }, { on := 24, ground := Ground.data }], guard := none }) (v := .bool true) rfl (by kernel_rfl) (by kernel_rfl) (by kernel_rfl) (fun _ _ _ h => h) (Or.inl ⟨by rfl, fun w hSw => by go_simp⟩) (by assumption) ?_
        try simp only [Act.put, List.setIfInBounds_toArray, List.set_cons_zero, List.set_cons_succ]
        refine wpAnyH_take (i := 26) (oi := { dst := some 2, op := Op.assign (Operand.tmp 65), type := 4, pos := "law.go:113", after := #[{ on := 25, ground := Ground.data }, { on := 8, ground := Ground.chain }, { on := 0, ground := Ground.phase }, { on := 1, ground := Ground.phase }, { on := 2, ground := Ground.phase }, { on := 3, ground := Ground.phase }, { on := 4, ground := Ground.phase }, { on := 5, ground := Ground.phase }, { on := 6, ground := Ground.phase }, { on := 7, ground := Ground.phase }, { on := 8, ground := Ground.phase }, { on := 9, ground := Ground.phase }, { on := 10, ground := Ground.phase }, { on := 11, ground := Ground.phase }, { on := 12, ground := Ground.phase }, { on := 13, ground := Ground.phase }, { on := 14, ground := Ground.phase }, { on := 15, ground := Ground.phase }, { on := 16, ground := Ground.phase }, { on := 17, ground := Ground.phase }, { on := 18, ground := Ground.phase }, { on := 19, ground := Ground.phase }, { on := 20, ground := Ground.phase }, { on := 21, ground := Ground.phase }, { on := 22, ground := Ground.phase }, { on := 23, ground := Ground.phase }, { on := 24, ground := Ground.phase }, { on := 25, ground := Ground.phase }], guard := none }) (v := .bool true) rfl (by kernel_rfl) (by kernel_rfl) (by kernel_rfl) (fun _ _ _ h => h) (Or.inl ⟨by rfl, fun w hSw => by go_simp⟩) (by assumption) ?_
        try simp only [Act.put, List.setIfInBounds_toArray, List.set_cons_zero, List.set_cons_succ]
        refine wpAnyH_done (by kernel_rfl) ?_ _
        try unfold NoPanic
        have HF := Lib.hid (HV.out.step hHeld)
        clear hHeld
        go_wp2
        go_ret
        exact ⟨rfl, HF.out.b⟩
      · skip
        have hkb : ¬ (1024 : Int) < j := by omega
        have hsk : (j : Int) - (j : Int) = (s : Int) := by omega
        have his : IntKind.i64.wrap (s : Int) = s := by rw [IntKind.wrap_i64]; omega
        have hi0 : IntKind.i64.wrap 0 = 0 := by decide
        have hs0 : s < 76 := by omega
        have HN : Hid (∀ W g v, LW w.heap.size w W g H1 (Lw j) v → Calls Try.prog 14 #[.pointer (some ⟨g, 0, none⟩)] W fun e w' => e = .returned (.int .i64 (j : Int)) ∧ W = w') := Lib.hid fun W g v h => by
          have := len_any h.e
          rw [Lw_len] at this
          rw [show min j 1024 = j by omega] at this
          exact this
        clear hs
        go_upto_region 14 with (go_at_call 11; (with_reducible refine (HP.out _ _ _ HV.out).mono ?_); rintro e w2 ⟨u, rfl, O2, B2⟩; obtain ⟨b, c, hu, d0, d1, hbl⟩ := own_cell2 O2; subst hu; rw [Coin.b8_small s (by omega)] at d0; rw [Coin.b8_small (s / 256) (by omega), show s / 256 = 0 by omega] at d1; have BA := (Below.refl w2.heap.size w2).alloc (Nat.le_refl _) (.cells #[.int .i64 0, .int .i64 1, .slice (some ⟨b, 0, none⟩) 2 c] 39); have hzl := heap_alloc_new w2 (.cells #[.int .i64 0, .int .i64 1, .slice (some ⟨b, 0, none⟩) 2 c] 39); obtain ⟨z0, z1, z2, zf⟩ := row3f hzl; obtain ⟨y0, y1, y2, yf⟩ := row3f (heap_alloc_new w2 (.cells #[.int .i64 0, .int .i64 0, .slice none 0 0] 39)); have HZ := Lib.hid (And.intro hzl (And.intro ((BA.cell (p := ⟨b, 0, none⟩) hbl).trans d0) (And.intro ((BA.cell (p := ⟨b, 1, none⟩) hbl).trans d1) (And.intro (Array.getElem?_eq_some_iff.1 hzl).1 (Nat.lt_of_lt_of_le hbl BA.size))))); have HV2 := Lib.hid ((HV.out.step B2).step BA); clear O2 B2 d0 d1 hbl BA hzl)
        clear z0 z1 z2 zf y0 y1 y2 yf HV
        have HV := HV2
        clear HV2 HP
        generalize w2.alloc _ = w3 at *
        generalize w2.heap.size = z at *
        refine wp_region_noPanic ?_
        refine wp_region_held_drew (S := fun y9 : World => Below w3.heap.size w3 y9) (by kernel_rfl) ((Below.refl _ _).drew) (fun hHeld => ?_)
        generalize w3.drew = wd at *
        refine wpAnyH_take (i := 0) (oi := { dst := some 40, op := Op.move (Operand.tmp 3), type := 24, pos := "law.go:113", after := #[], guard := none }) (v := .pointer (some ⟨g, 0, none⟩)) rfl (by kernel_rfl) (by kernel_rfl) (by kernel_rfl) (fun _ _ _ h => h) (Or.inl ⟨by rfl, fun w hSw => by go_simp⟩) (by assumption) ?_
        try simp only [Act.put, List.setIfInBounds_toArray, List.set_cons_zero, List.set_cons_succ]
        refine wpAnyH_take (i := 2) (oi := { dst := some 42, op := Op.move (Operand.tmp 6), type := 3, pos := "law.go:113", after := #[], guard := none }) (v := .int .i64 (j : Int)) rfl (by kernel_rfl) (by kernel_rfl) (by kernel_rfl) (fun _ _ _ h => h) (Or.inl ⟨by rfl, fun w hSw => by go_simp⟩) (by assumption) ?_
        try simp only [Act.put, List.setIfInBounds_toArray, List.set_cons_zero, List.set_cons_succ]
        refine wpAnyH_ready (rs := [1]) (by kernel_rfl) (by simp) ?_
        refine (AllReadyH.cons (o := { dst := some 41, op := Op.call { callee := Callee.value (Operand.func 14), args := #[Operand.tmp 40], argTypes := #[24] }, type := 3, pos := "law.go:113", after := #[{ on := 0, ground := Ground.data }], guard := none }) rfl (fun K hK => ?_) AllReadyH.nil)
        go_simp
        with_reducible refine (HN.out _ _ _ (HV.out.step hHeld)).mono ?_
        rintro e w5 ⟨rfl, rfl⟩
        refine hK.out _ _ (hHeld) (fun hHeld2 => ?_)
        clear hK K hHeld
        have hHeld := hHeld2
        clear hHeld2
        try simp only [Act.put, List.setIfInBounds_toArray, List.set_cons_zero, List.set_cons_succ]
        refine wpAnyH_take (i := 3) (oi := { dst := some 43, op := Op.binOp BinOp.eql 3 (Operand.tmp 41) (Operand.tmp 42) 3, type := 4, pos := "law.go:113", after := #[{ on := 1, ground := Ground.data }, { on := 2, ground := Ground.data }], guard := none }) (v := .bool true) rfl (by kernel_rfl) (by kernel_rfl) (by kernel_rfl) (fun _ _ _ h => h) (Or.inl ⟨by rfl, fun w hSw => by go_simp⟩) (by assumption) ?_
        try simp only [Act.put, List.setIfInBounds_toArray, List.set_cons_zero, List.set_cons_succ]
        refine wpAnyH_take (i := 4) (oi := { dst := some 44, op := Op.move (Operand.tmp 43), type := 4, pos := "law.go:113", after := #[{ on := 3, ground := Ground.data }, { on := 1, ground := Ground.chain }], guard := none }) (v := .bool true) rfl (by kernel_rfl) (by kernel_rfl) (by kernel_rfl) (fun _ _ _ h => h) (Or.inl ⟨by rfl, fun w hSw => by go_simp⟩) (by assumption) ?_
        try simp only [Act.put, List.setIfInBounds_toArray, List.set_cons_zero, List.set_cons_succ]
        refine wpAnyH_take (i := 5) (oi := { dst := some 45, op := Op.move (Operand.tmp 8), type := 35, pos := "law.go:113", after := #[{ on := 4, ground := Ground.guard }], guard := some (4, true) }) (v := .int .i64 0) rfl (by kernel_rfl) (by kernel_rfl) (by kernel_rfl) (fun _ _ _ h => h) (Or.inl ⟨by rfl, fun w hSw => by go_simp⟩) (by assumption) ?_
        try simp only [Act.put, List.setIfInBounds_toArray, List.set_cons_zero, List.set_cons_succ]
        refine wpAnyH_take (i := 6) (oi := { dst := some 46, op := Op.binOp BinOp.eql 35 (Operand.tmp 45) (Operand.const (Value.int IntKind.i64 0)) 35, type := 4, pos := "law.go:113", after := #[{ on := 5, ground := Ground.data }, { on := 4, ground := Ground.guard }], guard := some (4, true) }) (v := .bool true) rfl (by kernel_rfl) (by kernel_rfl) (by kernel_rfl) (fun _ _ _ h => h) (Or.inl ⟨by rfl, fun w hSw => by go_simp⟩) (by assumption) ?_
        try simp only [Act.put, List.setIfInBounds_toArray, List.set_cons_zero, List.set_cons_succ]
        refine wpAnyH_take (i := 7) (oi := { dst := some 47, op := Op.pick (Operand.tmp 44) (Operand.tmp 46) (Operand.const (Value.bool false)), type := 4, pos := "law.go:113", after := #[{ on := 4, ground := Ground.data }, { on := 6, ground := Ground.data }], guard := none }) (v := .bool true) rfl (by kernel_rfl) (by kernel_rfl) (by kernel_rfl) (fun _ _ _ h => h) (Or.inl ⟨by rfl, fun w hSw => by go_simp⟩) (by assumption) ?_
        try simp only [Act.put, List.setIfInBounds_toArray, List.set_cons_zero, List.set_cons_succ]
        refine wpAnyH_take (i := 8) (oi := { dst := some 48, op := Op.move (Operand.tmp 47), type := 4, pos := "law.go:113", after := #[{ on := 7, ground := Ground.data }, { on := 4, ground := Ground.chain }], guard := none }) (v := .bool true) rfl (by kernel_rfl) (by kernel_rfl) (by kernel_rfl) (fun _ _ _ h => h) (Or.inl ⟨by rfl, fun w hSw => by go_simp⟩) (by assumption) ?_
        try simp only [Act.put, List.setIfInBounds_toArray, List.set_cons_zero, List.set_cons_succ]
        refine wpAnyH_take (i := 9) (oi := { dst := some 49, op := Op.fieldAddr 39 (Operand.tmp 7) 2, type := 0, pos := "law.go:113", after := #[{ on := 8, ground := Ground.guard }], guard := some (8, true) }) (v := .pointer (some ⟨z, 2, none⟩)) rfl (by kernel_rfl) (by kernel_rfl) (by kernel_rfl) (fun _ _ _ h => h) (Or.inl ⟨by rfl, fun w hSw => by go_simp⟩) (by assumption) ?_
        try simp only [Act.put, List.setIfInBounds_toArray, List.set_cons_zero, List.set_cons_succ]
        refine wpAnyH_take (i := 10) (oi := { dst := some 50, op := Op.load 37 (Operand.tmp 49), type := 37, pos := "law.go:113", after := #[{ on := 9, ground := Ground.data }, { on := 8, ground := Ground.guard }], guard := some (8, true) }) (v := .slice (some ⟨b, 0, none⟩) 2 c) rfl (by kernel_rfl) (by kernel_rfl) (by kernel_rfl) (fun _ _ _ h => h) (Or.inl ⟨by rfl, fun w hSw => by obtain ⟨z0, z1, z2, zf⟩ := row3f ((hSw.block _ HZ.out.2.2.2.1).trans HZ.out.1); go_simp⟩) (by assumption) ?_
        try simp only [Act.put, List.setIfInBounds_toArray, List.set_cons_zero, List.set_cons_succ]
        refine wpAnyH_take (i := 11) (oi := { dst := some 51, op := Op.indexAddr 37 (Operand.tmp 50) (Operand.const (Value.int IntKind.i64 0)), type := 0, pos := "law.go:113", after := #[{ on := 10, ground := Ground.data }, { on := 8, ground := Ground.guard }], guard := some (8, true) }) (v := .pointer (some ⟨b, 0, none⟩)) rfl (by kernel_rfl) (by kernel_rfl) (by kernel_rfl) (fun _ _ _ h => h) (Or.inl ⟨by rfl, fun w hSw => by go_simp⟩) (by assumption) ?_
        try simp only [Act.put, List.setIfInBounds_toArray, List.set_cons_zero, List.set_cons_succ]
        refine wpAnyH_take (i := 12) (oi := { dst := some 52, op := Op.load 5 (Operand.tmp 51), type := 5, pos := "law.go:113", after := #[{ on := 11, ground := Ground.data }, { on := 8, ground := Ground.guard }], guard := some (8, true) }) (v := .int .u8 (s : Int)) rfl (by kernel_rfl) (by kernel_rfl) (by kernel_rfl) (fun _ _ _ h => h) (Or.inl ⟨by rfl, fun w hSw => by have d0 := (hSw.cell (p := ⟨b, 0, none⟩) HZ.out.2.2.2.2).trans HZ.out.2.1; go_simp⟩) (by assumption) ?_
        try simp only [Act.put, List.setIfInBounds_toArray, List.set_cons_zero, List.set_cons_succ]
        refine wpAnyH_take (i := 13) (oi := { dst := some 53, op := Op.convert 5 3 (Operand.tmp 52), type := 3, pos := "law.go:113", after := #[{ on := 12, ground := Ground.data }, { on := 8, ground := Ground.guard }], guard := some (8, true) }) (v := .int .i64 (s : Int)) rfl (by kernel_rfl) (by kernel_rfl) (by kernel_rfl) (fun _ _ _ h => h) (Or.inl ⟨by rfl, fun w hSw => by go_simp⟩) (by assumption) ?_
        try simp only [Act.put, List.setIfInBounds_toArray, List.set_cons_zero, List.set_cons_succ]
        refine wpAnyH_take (i := 14) (oi := { dst := some 54, op := Op.fieldAddr 39 (Operand.tmp 7) 2, type := 0, pos := "law.go:113", after := #[{ on := 8, ground := Ground.guard }], guard := some (8, true) }) (v := .pointer (some ⟨z, 2, none⟩)) rfl (by kernel_rfl) (by kernel_rfl) (by kernel_rfl) (fun _ _ _ h => h) (Or.inl ⟨by rfl, fun w hSw => by go_simp⟩) (by assumption) ?_
        try simp only [Act.put, List.setIfInBounds_toArray, List.set_cons_zero, List.set_cons_succ]
        refine wpAnyH_take (i := 15) (oi := { dst := some 55, op := Op.load 37 (Operand.tmp 54), type := 37, pos := "law.go:113", after := #[{ on := 14, ground := Ground.data }, { on := 8, ground := Ground.guard }], guard := some (8, true) }) (v := .slice (some ⟨b, 0, none⟩) 2 c) rfl (by kernel_rfl) (by kernel_rfl) (by kernel_rfl) (fun _ _ _ h => h) (Or.inl ⟨by rfl, fun w hSw => by obtain ⟨z0, z1, z2, zf⟩ := row3f ((hSw.block _ HZ.out.2.2.2.1).trans HZ.out.1); go_simp⟩) (by assumption) ?_
        try simp only [Act.put, List.setIfInBounds_toArray, List.set_cons_zero, List.set_cons_succ]
        refine wpAnyH_take (i := 16) (oi := { dst := some 56, op := Op.indexAddr 37 (Operand.tmp 55) (Operand.const (Value.int IntKind.i64 1)), type := 0, pos := "law.go:113", after := #[{ on := 15, ground := Ground.data }, { on := 8, ground := Ground.guard }], guard := some (8, true) }) (v := .pointer (some ⟨b, 1, none⟩)) rfl (by kernel_rfl) (by kernel_rfl) (by kernel_rfl) (fun _ _ _ h => h) (Or.inl ⟨by rfl, fun w hSw => by go_simp⟩) (by assumption) ?_
        try simp only [Act.put, List.setIfInBounds_toArray, List.set_cons_zero, List.set_cons_succ]
        refine wpAnyH_take (i := 17) (oi := { dst := some 57, op := Op.load 5 (Operand.tmp 56), type := 5, pos := "law.go:113", after := #[{ on := 16, ground := Ground.data }, { on := 8, ground := Ground.guard }], guard := some (8, true) }) (v := .int .u8 0) rfl (by kernel_rfl) (by kernel_rfl) (by kernel_rfl) (fun _ _ _ h => h) (Or.inl ⟨by rfl, fun w hSw => by have d1 := (hSw.cell (p := ⟨b, 1, none⟩) HZ.out.2.2.2.2).trans HZ.out.2.2.1; go_simp⟩) (by assumption) ?_
        try simp only [Act.put, List.setIfInBounds_toArray, List.set_cons_zero, List.set_cons_succ]
        refine wpAnyH_take (i := 18) (oi := { dst := some 58, op := Op.convert 5 3 (Operand.tmp 57), type := 3, pos := "law.go:113", after := #[{ on := 17, ground := Ground.data }, { on := 8, ground := Ground.guard }], guard := some (8, true) }) (v := .int .i64 0) rfl (by kernel_rfl) (by kernel_rfl) (by kernel_rfl) (fun _ _ _ h => h) (Or.inl ⟨by rfl, fun w hSw => by go_simp⟩) (by assumption) ?_
        try simp only [Act.put, List.setIfInBounds_toArray, List.set_cons_zero, List.set_cons_succ]
        refine wpAnyH_take (i := 19) (oi := { dst := some 59, op := Op.binOp BinOp.shl 3 (Operand.tmp 58) (Operand.const (Value.int IntKind.u64 8)) 48, type := 3, pos := "law.go:113", after := #[{ on := 18, ground := Ground.data }, { on := 8, ground := Ground.guard }], guard := some (8, true) }) (v := .int .i64 0) rfl (by kernel_rfl) (by kernel_rfl) (by kernel_rfl) (fun _ _ _ h => h) (Or.inl ⟨by rfl, fun w hSw => by go_simp⟩) (by assumption) ?_
        try simp only [Act.put, List.setIfInBounds_toArray, List.set_cons_zero, List.set_cons_succ]
        refine wpAnyH_take (i := 20) (oi := { dst := some 60, op := Op.binOp BinOp.add 3 (Operand.tmp 53) (Operand.tmp 59) 3, type := 3, pos := "law.go:113", after := #[{ on := 13, ground := Ground.data }, { on := 19, ground := Ground.data }, { on := 8, ground := Ground.guard }], guard := some (8, true) }) (v := .int .i64 (s : Int)) rfl (by kernel_rfl) (by kernel_rfl) (by kernel_rfl) (fun _ _ _ h => h) (Or.inl ⟨by rfl, fun w hSw => by go_simp⟩) (by assumption) ?_
        try simp only [Act.put, List.setIfInBounds_toArray, List.set_cons_zero, List.set_cons_succ]
        refine wpAnyH_take (i := 21) (oi := { dst := some 61, op := Op.move (Operand.tmp 4), type := 3, pos := "law.go:113", after := #[{ on := 8, ground := Ground.guard }], guard := some (8, true) }) (v := .int .i64 (j : Int)) rfl (by kernel_rfl) (by kernel_rfl) (by kernel_rfl) (fun _ _ _ h => h) (Or.inl ⟨by rfl, fun w hSw => by go_simp⟩) (by assumption) ?_
        try simp only [Act.put, List.setIfInBounds_toArray, List.set_cons_zero, List.set_cons_succ]
        refine wpAnyH_take (i := 22) (oi := { dst := some 62, op := Op.move (Operand.tmp 6), type := 3, pos := "law.go:113", after := #[{ on := 8, ground := Ground.guard }], guard := some (8, true) }) (v := .int .i64 (j : Int)) rfl (by kernel_rfl) (by kernel_rfl) (by kernel_rfl) (fun _ _ _ h => h) (Or.inl ⟨by rfl, fun w hSw => by go_simp⟩) (by assumption) ?_
        try simp only [Act.put, List.setIfInBounds_toArray, List.set_cons_zero, List.set_cons_succ]
        refine wpAnyH_take (i := 23) (oi := { dst := some 63, op := Op.binOp BinOp.sub 3 (Operand.tmp 61) (Operand.tmp 62) 3, type := 3, pos := "law.go:113", after := #[{ on := 21, ground := Ground.data }, { on := 22, ground := Ground.data }, { on := 8, ground := Ground.guard }], guard := some (8, true) }) (v := .int .i64 (s : Int)) rfl (by kernel_rfl) (by kernel_rfl) (by kernel_rfl) (fun _ _ _ h => h) (Or.inl ⟨by rfl, fun w hSw => by go_simp⟩) (by assumption) ?_
        try simp only [Act.put, List.setIfInBounds_toArray, List.set_cons_zero, List.set_cons_succ]
        refine wpAnyH_take (i := 24) (oi := { dst := some 64, op := Op.binOp BinOp.eql 3 (Operand.tmp 60) (Operand.tmp 63) 3, type := 4, pos := "law.go:113", after := #[{ on := 20, ground := Ground.data }, { on := 23, ground := Ground.data }, { on := 8, ground := Ground.guard }], guard := some (8, true) }) (v := .bool true) rfl (by kernel_rfl) (by kernel_rfl) (by kernel_rfl) (fun _ _ _ h => h) (Or.inl ⟨by rfl, fun w hSw => by go_simp⟩) (by assumption) ?_
        try simp only [Act.put, List.setIfInBounds_toArray, List.set_cons_zero, List.set_cons_succ]
        refine wpAnyH_take (i := 25) (oi := { dst := some 65, op := Op.pick (Operand.tmp 48) (Operand.tmp 64) (Operand.const (Value.bool false)), type := 4, pos := "law.go:113", after := #[{ on := 8, ground := Ground.data }, { on := 24, ground := Ground.data }], guard := none }) (v := .bool true) rfl (by kernel_rfl) (by kernel_rfl) (by kernel_rfl) (fun _ _ _ h => h) (Or.inl ⟨by rfl, fun w hSw => by go_simp⟩) (by assumption) ?_
        try simp only [Act.put, List.setIfInBounds_toArray, List.set_cons_zero, List.set_cons_succ]
        refine wpAnyH_take (i := 26) (oi := { dst := some 2, op := Op.assign (Operand.tmp 65), type := 4, pos := "law.go:113", after := #[{ on := 25, ground := Ground.data }, { on := 8, ground := Ground.chain }, { on := 0, ground := Ground.phase }, { on := 1, ground := Ground.phase }, { on := 2, ground := Ground.phase }, { on := 3, ground := Ground.phase }, { on := 4, ground := Ground.phase }, { on := 5, ground := Ground.phase }, { on := 6, ground := Ground.phase }, { on := 7, ground := Ground.phase }, { on := 8, ground := Ground.phase }, { on := 9, ground := Ground.phase }, { on := 10, ground := Ground.phase }, { on := 11, ground := Ground.phase }, { on := 12, ground := Ground.phase }, { on := 13, ground := Ground.phase }, { on := 14, ground := Ground.phase }, { on := 15, ground := Ground.phase }, { on := 16, ground := Ground.phase }, { on := 17, ground := Ground.phase }, { on := 18, ground := Ground.phase }, { on := 19, ground := Ground.phase }, { on := 20, ground := Ground.phase }, { on := 21, ground := Ground.phase }, { on := 22, ground := Ground.phase }, { on := 23, ground := Ground.phase }, { on := 24, ground := Ground.phase }, { on := 25, ground := Ground.phase }], guard := none }) (v := .bool true) rfl (by kernel_rfl) (by kernel_rfl) (by kernel_rfl) (fun _ _ _ h => h) (Or.inl ⟨by rfl, fun w hSw => by go_simp⟩) (by assumption) ?_
        try simp only [Act.put, List.setIfInBounds_toArray, List.set_cons_zero, List.set_cons_succ]
        refine wpAnyH_done (by kernel_rfl) ?_ _
        try unfold NoPanic
        have HF := Lib.hid (HV.out.step hHeld)
        clear hHeld
        go_wp2
        go_ret
        exact ⟨rfl, HF.out.b⟩

set_option maxRecDepth 100000 in
theorem lifted (os : Os) (started : os.Started) (H : Type) (enc : TypeId × Value → H) :
    ReturnsInHanded {} Try.checked os 4 .any (Rows.etherMostSpec.pre6 enc Try.prog Try.f4 Rows.etherMostRow.domain false) (Rows.etherMostSpec.post enc Try.prog Try.f4 false true false false) := by
  refine returnsInHanded_of_change (C := Try.checked) own started (by kernel_rfl) Try.func4
    (ChangeSpec.witness6 (enc := enc) (C := Try.checked) false ⟨#[], #[.int .u16 0], []⟩ 8 (by kernel_rfl) (by kernel_rfl) (by kernel_rfl) (by kernel_rfl)) ?_
  intro W base args ds gs before hval0 hW hcnd _
  have hval : ∀ (j : Nat) t v, Try.f4.params[j]? = some t → args[j]? = some v → Value.okWide Try.prog W .any base t v := hval0
  have hW' := hW
  obtain ⟨p, q, hA0, hV, rfl, hfz, hnd⟩ := hW
  have hA : DataW.TrodAll enc Try.prog W 0 (fun _ => true) true Try.f4.params.toList args.toList ds p := hA0
  rw [Try.params4] at hA hval
  obtain ⟨v0, vs0, d0, ds0, p0, q0, hargs, rfl, rfl, h0, r0⟩ := trodAll_cons hA
  obtain ⟨rfl, rfl, rfl⟩ := trodAll_nil r0
  obtain rfl : args = #[v0] := by cases args; simp_all
  obtain ⟨rfl, rfl⟩ := trodVars_none hV
  obtain ⟨a0, rfl, rfl, rfl, w0⟩ := open_int Try.underlying47 (hval 0 47 v0 rfl rfl) h0
  clear hA0 hval0
  refine (walk a0 W w0).mono fun e W' ⟨he, bel⟩ => ?_
  subst he
  exact ⟨_, rfl, _, _, _, [], _, [], hW', trodAll_mk1 (shut_bool Try.underlying4 _), (trodAll_cons_mk (shut_int Try.underlying47 w0) trodAll_mk0), rfl, bel.frame _, fun h => by cases h⟩

theorem over : Rows.etherMostRow.holds Try.pinned (OpenSpec.ofChange Rows.etherMostSpec) :=
  OpenClaim.holds_of_wide 4 Try.f4 rfl rfl rfl rfl rfl rfl rfl ⟨rfl, rfl, rfl, rfl, rfl⟩ rfl rfl rfl rfl rfl (by kernel_rfl) Try.func4 (by kernel_rfl)
    (of_decide_eq_true (by kernel_rfl)) (by unfold Func.isWrapper; first | (rw [if_pos (by decide +kernel)]; kernel_rfl) | (rw [if_neg (by decide +kernel)]; exact ⟨rfl, rfl⟩))
    (fun os started H enc _ => lifted os started H enc)

theorem proved : Rows.EtherMostSaid := over
#print axioms proved
end Go.Proofs.Yteolfclkcgfelaa.etherMost
