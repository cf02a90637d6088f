/-
  'For every input the Go function milestonelaw13.MessageRights returns true, and each argument reads behind the call as it read before.'
  Conditions: none but the row's own (linux/amd64, sizes of what is read within the address space).
-/
import Derived.Test.YtecfblkagbdjlaaRows
import Derived.WalkKit
import Derived.ProofKit
import Derived.OpenShut
import Derived.ShutString
import Derived.ChangeOld
import Derived.Below
import Derived.Lib.SmallJoins
import Derived.Lib.Hide
import Derived.Test.YtecfblkagbdjlaaMt
import Derived.WalkLawsBesides
import Derived.Deep.RegionHeld3
namespace Go.Proofs.Ytecfblkagbdjlaa.messageRights
open Go.Proofs.Ytecfblkagbdjlaa.Msg
open Coin (Own Rd CoinOwn)
open Go.ChangeShapes Go.WideShapes Go.ChangeAt Go.RowKit
open Go.ChangeMaps (open_string shut_string)
set_option linter.unusedVariables false

theorem own : ownKnob Try.prog.godebug = none := by kernel_rfl
theorem laidOut : laidOutB Try.prog = true := by kernel_rfl

set_option maxRecDepth 8000

theorem enc_one1 (x : Pt) (h : x.rt = true) : enc 0 [x] = sealB ([1, 0] ++ x.bytes) := by
  unfold enc encB kept
  simp [h]; rfl
theorem enc_one0 (x : Pt) (h : x.rt = false) : enc 0 [x] = sealB [1, 0] := by
  unfold enc encB kept
  simp [h]; rfl
/-- The law's box, and what stood. -/
structure Rg (w wx : World) (x : Pt) : Prop where
  bl : Below w.heap.size w wx
  r0 : wx.heap[w.heap.size]? = some (.cells #[.int .u8 (x.K : Int), .int .u64 (x.N : Int), .int .i64 x.Nd, .int .u32 (x.A : Int), .int .u8 (x.L : Int), .int .u16 (x.Sq : Int), .int .u16 (x.M : Int)] 28 (0, 0))
theorem Rg.lt {w wx : World} {x : Pt} (h : Rg w wx x) : w.heap.size < wx.heap.size := (Array.getElem?_eq_some_iff.1 h.r0).1
theorem Rg.step {w wx w' : World} {x : Pt} (h : Rg w wx x) (B : Below wx.heap.size wx w') : Rg w w' x :=
  ⟨h.bl.trans (B.mono h.bl.size), (B.block _ h.lt).trans h.r0⟩

set_option maxHeartbeats 4000000 in
theorem walk (x : Pt) (a1 : Int) (w : World) (w0 : x.Fits) (w1 : (Lit.int .u8 a1).wf = true) :
    Calls Try.prog 3 #[.agg #[.int .u8 (x.K : Int), .int .u64 (x.N : Int), .int .i64 x.Nd, .int .u32 (x.A : Int), .int .u8 (x.L : Int), .int .u16 (x.Sq : Int), .int .u16 (x.M : Int)], .int .u8 a1] w fun e w' => e = .returned (.bool true) ∧ Below w.heap.size w w' := by
  have b1 := bounds_u8 w1
  obtain ⟨hw, rfl⟩ := Int.eq_ofNat_of_zero_le b1.1
  by_cases h128 : hw < 128
  · have hxf := w0
    have h128' : ¬ (128 : Int) ≤ (hw : Int) := by omega
    have HF := Lib.hid (And.intro (fun W => (show Calls Try.prog 13 #[.agg #[.int .u8 (x.K : Int), .int .u64 (x.N : Int), .int .i64 x.Nd, .int .u32 (x.A : Int), .int .u8 (x.L : Int), .int .u16 (x.Sq : Int), .int .u16 (x.M : Int)]] W _ from right_any x hxf W)) (And.intro (fun W => (show Calls Try.prog 10 #[.agg #[.int .u8 (x.K : Int), .int .u64 (x.N : Int), .int .i64 x.Nd, .int .u32 (x.A : Int), .int .u8 (x.L : Int), .int .u16 (x.Sq : Int), .int .u16 (x.M : Int)]] W _ from rright_any x hxf W)) (And.intro hxf (fun (hr : x.rt = true) W => (show Calls Try.prog 11 #[.agg #[.int .u8 (x.K : Int), .int .u64 (x.N : Int), .int .i64 x.Nd, .int .u32 (x.A : Int), .int .u8 (x.L : Int), .int .u16 (x.Sq : Int), .int .u16 (x.M : Int)]] W _ from rbytes_any x hxf hr W)))))
    have HB : Hid (Rg w (w.alloc (.cells #[.int .u8 (x.K : Int), .int .u64 (x.N : Int), .int .i64 x.Nd, .int .u32 (x.A : Int), .int .u8 (x.L : Int), .int .u16 (x.Sq : Int), .int .u16 (x.M : Int)] 28)) x) := ⟨(Below.refl _ _).alloc (Nat.le_refl _) _, heap_alloc_new w _⟩
    clear hxf b1 h128 w1 w0
    cases hrt : x.rt
    · have HRT := Lib.hid hrt
      clear hrt
      go_enter Try.func3, Try.ntmps3
      go_upto_region 5 with (fail)
      generalize w.alloc _ = wb at *
      have B1 : Below wb.heap.size wb (wb.alloc (.cells #[.int .u8 (x.K : Int), .int .u64 (x.N : Int), .int .i64 x.Nd, .int .u32 (x.A : Int), .int .u8 (x.L : Int), .int .u16 (x.Sq : Int), .int .u16 (x.M : Int)] 28)) := (Below.refl _ _).alloc (Nat.le_refl _) _
      have hen := enc_any (wb.alloc (.cells #[.int .u8 (x.K : Int), .int .u64 (x.N : Int), .int .i64 x.Nd, .int .u32 (x.A : Int), .int .u8 (x.L : Int), .int .u16 (x.Sq : Int), .int .u16 (x.M : Int)] 28)) 0 1 1 (some ⟨wb.heap.size, 0, none⟩) [x] (by decide) rfl (by decide) (psl_one (x := x) rfl (heap_alloc_new wb _)) (fun y hy => by rw [List.mem_singleton.1 hy]; exact HF.out.2.2.1)
      have hen : Calls Try.prog 9 #[.agg #[.int .i64 0, .slice (some ⟨wb.heap.size, 0, none⟩) 1 1]] (wb.alloc (.cells #[.int .u8 (x.K : Int), .int .u64 (x.N : Int), .int .i64 x.Nd, .int .u32 (x.A : Int), .int .u8 (x.L : Int), .int .u16 (x.Sq : Int), .int .u16 (x.M : Int)] 28)) (CoinOwn _ (enc 0 [x])) := hen
      have hPQ := enc_one0 x HRT.out
      generalize enc 0 [x] = P at *
      have HN := Lib.hid (And.intro hen (And.intro B1 hPQ))
      clear hen B1 hPQ
      obtain ⟨⟨q0, q1, q2, q3, q4, q5, q6⟩, -⟩ := row7 HB.out.r0; have eb := HB.out.lt
      go_upto_region 9 with (first
        | (go_at_call 9; (with_reducible refine HN.out.1.mono ?_); (rintro e w6 ⟨v6, rfl, O6, B6⟩; obtain ⟨A6, c6, hv6, R6, -, -⟩ := O6.form; obtain ⟨m6, hm6⟩ : ∃ m, m = P.length := ⟨_, rfl⟩; rw [← hm6] at hv6; subst hv6; have HB6 := Lib.hid (HB.out.step (HN.out.2.1.trans (B6.mono (by simp)))); have HP6 := Lib.hid (And.intro R6 hm6); clear O6 B6 R6 hm6 eb; clear q0 q1 q2 q3 q4 q5 q6; obtain ⟨⟨q0, q1, q2, q3, q4, q5, q6⟩, -⟩ := row7 HB6.out.r0; have eb := HB6.out.lt; have R7 := Coin.Row.lit w6 [1, 0]; have B7 : Below w6.heap.size w6 (w6.alloc (.cells #[.int .u8 1, .int .u8 0] 5)) := (Below.refl _ _).alloc (Nat.le_refl _) _; have HW := Lib.hid (And.intro (show Own _ w6.heap.size (.slice (some ⟨w6.heap.size, 0, none⟩) 2 2) [1, 0] from R7.own (B := w6.heap.size) (Nat.le_refl _) (by decide)) B7); clear R7 B7))
        | (go_at_call 10; (with_reducible refine (HF.out.2.1 _).mono ?_); (rintro e w8 ⟨rfl, B8⟩; rw [HRT.out]; have HW8 := Lib.hid (And.intro (HW.out.1.kept B8) (HW.out.2.trans (B8.mono HW.out.2.size))); have HB8 := Lib.hid (HB6.out.step HW8.out.2); clear B8 eb; clear q0 q1 q2 q3 q4 q5 q6; obtain ⟨⟨q0, q1, q2, q3, q4, q5, q6⟩, -⟩ := row7 HB8.out.r0; have eb := HB8.out.lt)))
      have HT := Lib.hid (And.intro HB8.out (And.intro ((HP6.out.1.below HW8.out.2 (Nat.le_refl _)).more HW8.out.2.size) (And.intro HP6.out.2 (And.intro HW8.out.1.rd (And.intro (show 2 = ([1, 0] : List UInt8).length from rfl) (And.intro (show 2 ≤ 100000 by decide) (And.intro (show (some (⟨w6.heap.size, 0, none⟩ : Addr)) = none → 2 = 0 from fun h => by cases h) HN.out.2.2)))))))
      clear q0 q1 q2 q3 q4 q5 q6 eb
      clear HW HW8 HB8 HB6 HN HP6
      generalize ([1, 0] : List UInt8) = Q at *
      generalize some (⟨w6.heap.size, 0, none⟩ : Addr) = A7 at *
      generalize w8 = wz at *
      obtain ⟨SP, hSP⟩ : ∃ SP, Coin.str P = SP := ⟨_, rfl⟩
      have HSP := Lib.hid hSP
      clear hSP
      have HROW : Hid (∀ W, Below wz.heap.size wz W → W.heap[w.heap.size]? = some (.cells #[.int .u8 (x.K : Int), .int .u64 (x.N : Int), .int .i64 x.Nd, .int .u32 (x.A : Int), .int .u8 (x.L : Int), .int .u16 (x.Sq : Int), .int .u16 (x.M : Int)] 28 (0, 0))) := fun W h => (h.block w.heap.size HT.out.1.lt).trans HT.out.1.r0
      refine wp_region_noPanic ?_
      refine wp_region_held_drew (S := fun W : World => Below wz.heap.size wz W) (by kernel_rfl) ((Below.refl _ _).drew) (fun hHeld => ?_)
      generalize wz.drew = wd at *
      refine wpAnyH_ready (rs := [0]) (by kernel_rfl) (by simp) ?_
      refine AllReadyH.cons (o := { dst := some 28, op := Op.call { callee := Callee.value (Operand.func 12), args := #[], argTypes := #[] }, type := 4, pos := "law.go:78", after := #[], guard := none }) rfl (fun K hK => ?_) AllReadyH.nil
      go_simp
      refine (awake_any _).mono ?_
      rintro e w8 ⟨rfl, B8⟩
      have hb8 := hHeld.trans (B8.mono hHeld.size)
      refine hK.out _ _ (hb8) (fun hHeld => ?_)
      clear hK K
      try simp only [Act.put, List.setIfInBounds_toArray, List.set_cons_zero, List.set_cons_succ]
      refine wpAnyH_take (i := 1) (oi := { dst := some 29, op := Op.move (Operand.tmp 28), type := 4, pos := "law.go:78", after := #[{ on := 0, ground := Ground.data }, { on := 0, ground := Ground.chain }], guard := none }) (v := .bool true) rfl (by kernel_rfl) (by kernel_rfl) (by kernel_rfl) (fun _ _ _ h => h) (Or.inl ⟨by rfl, fun w hSw => by go_simp⟩) (by assumption) ?_
      try simp only [Act.put, List.setIfInBounds_toArray, List.set_cons_zero, List.set_cons_succ]
      refine wpAnyH_take (i := 2) (oi := { dst := some 30, op := Op.load 28 (Operand.tmp 2), type := 28, pos := "law.go:78", after := #[{ on := 1, ground := Ground.guard }], guard := some (1, true) }) (v := .agg #[.int .u8 (x.K : Int), .int .u64 (x.N : Int), .int .i64 x.Nd, .int .u32 (x.A : Int), .int .u8 (x.L : Int), .int .u16 (x.Sq : Int), .int .u16 (x.M : Int)]) rfl (by kernel_rfl) (by kernel_rfl) (by kernel_rfl) (fun _ _ _ h => h) (Or.inl ⟨by rfl, fun w hSw => by obtain ⟨⟨q0, q1, q2, q3, q4, q5, q6⟩, -⟩ := row7 (HROW.out _ hSw); go_simp⟩) (by assumption) ?_
      try simp only [Act.put, List.setIfInBounds_toArray, List.set_cons_zero, List.set_cons_succ]
      refine wpAnyH_take (i := 4) (oi := { dst := some 32, op := Op.load 28 (Operand.tmp 2), type := 28, pos := "law.go:78", after := #[{ on := 1, ground := Ground.guard }], guard := some (1, true) }) (v := .agg #[.int .u8 (x.K : Int), .int .u64 (x.N : Int), .int .i64 x.Nd, .int .u32 (x.A : Int), .int .u8 (x.L : Int), .int .u16 (x.Sq : Int), .int .u16 (x.M : Int)]) rfl (by kernel_rfl) (by kernel_rfl) (by kernel_rfl) (fun _ _ _ h => h) (Or.inl ⟨by rfl, fun w hSw => by obtain ⟨⟨q0, q1, q2, q3, q4, q5, q6⟩, -⟩ := row7 (HROW.out _ hSw); go_simp⟩) (by assumption) ?_
      try simp only [Act.put, List.setIfInBounds_toArray, List.set_cons_zero, List.set_cons_succ]
      refine wpAnyH_ready (rs := [3]) (by kernel_rfl) (by simp) ?_
      refine AllReadyH.cons (o := { dst := some 31, op := Op.call { callee := Callee.value (Operand.func 13), args := #[Operand.tmp 30], argTypes := #[28] }, type := 4, pos := "law.go:78", after := #[{ on := 2, ground := Ground.data }, { on := 1, ground := Ground.chain }, { on := 1, ground := Ground.guard }], guard := some (1, true) }) rfl (fun K hK => ?_) AllReadyH.nil
      go_simp
      refine (HF.out.1 _).mono ?_
      rintro e w9 ⟨rfl, B9⟩
      have hb9 := hHeld.trans (B9.mono hHeld.size)
      refine hK.out _ _ (hb9) (fun hHeld => ?_)
      clear hK K
      try simp only [Act.put, List.setIfInBounds_toArray, List.set_cons_zero, List.set_cons_succ]
      refine wpAnyH_ready (rs := [5]) (by kernel_rfl) (by simp) ?_
      refine AllReadyH.cons (o := { dst := some 33, op := Op.call { callee := Callee.value (Operand.func 10), args := #[Operand.tmp 32], argTypes := #[28] }, type := 4, pos := "law.go:78", after := #[{ on := 4, ground := Ground.data }, { on := 3, ground := Ground.chain }, { on := 1, ground := Ground.guard }], guard := some (1, true) }) rfl (fun K hK => ?_) AllReadyH.nil
      go_simp
      refine (HF.out.2.1 _).mono ?_
      rintro e w10 ⟨rfl, B10⟩
      have hb10 := hHeld.trans (B10.mono hHeld.size)
      refine hK.out _ _ (hb10) (fun hHeld => ?_)
      clear hK K
      try simp only [Act.put, List.setIfInBounds_toArray, List.set_cons_zero, List.set_cons_succ]
      refine wpAnyH_take (i := 6) (oi := { dst := some 34, op := Op.binOp BinOp.eql 4 (Operand.tmp 31) (Operand.tmp 33) 4, type := 4, pos := "law.go:78", after := #[{ on := 3, ground := Ground.data }, { on := 5, ground := Ground.data }, { on := 1, ground := Ground.guard }], guard := some (1, true) }) (v := .bool true) rfl (by kernel_rfl) (by kernel_rfl) (by kernel_rfl) (fun _ _ _ h => h) (Or.inl ⟨by rfl, fun w hSw => by go_simp⟩) (by assumption) ?_
      try simp only [Act.put, List.setIfInBounds_toArray, List.set_cons_zero, List.set_cons_succ]
      refine wpAnyH_take (i := 7) (oi := { dst := some 35, op := Op.pick (Operand.tmp 29) (Operand.tmp 34) (Operand.const (Value.bool false)), type := 4, pos := "law.go:78", after := #[{ on := 1, ground := Ground.data }, { on := 6, ground := Ground.data }], guard := none }) (v := .bool true) rfl (by kernel_rfl) (by kernel_rfl) (by kernel_rfl) (fun _ _ _ h => h) (Or.inl ⟨by rfl, fun w hSw => by go_simp⟩) (by assumption) ?_
      try simp only [Act.put, List.setIfInBounds_toArray, List.set_cons_zero, List.set_cons_succ]
      refine wpAnyH_take (i := 8) (oi := { dst := some 36, op := Op.move (Operand.tmp 35), type := 4, pos := "law.go:78", after := #[{ on := 7, ground := Ground.data }, { on := 5, ground := Ground.chain }], guard := none }) (v := .bool true) rfl (by kernel_rfl) (by kernel_rfl) (by kernel_rfl) (fun _ _ _ h => h) (Or.inl ⟨by rfl, fun w hSw => by go_simp⟩) (by assumption) ?_
      try simp only [Act.put, List.setIfInBounds_toArray, List.set_cons_zero, List.set_cons_succ]
      refine wpAnyH_take (i := 9) (oi := { dst := some 37, op := Op.move (Operand.tmp 6), type := 30, pos := "law.go:78", after := #[{ on := 8, ground := Ground.guard }], guard := some (8, true) }) (v := .slice A6 m6 c6) rfl (by kernel_rfl) (by kernel_rfl) (by kernel_rfl) (fun _ _ _ h => h) (Or.inl ⟨by rfl, fun w hSw => by go_simp⟩) (by assumption) ?_
      try simp only [Act.put, List.setIfInBounds_toArray, List.set_cons_zero, List.set_cons_succ]
      refine wpAnyH_take (i := 10) (oi := { dst := some 38, op := Op.convert 30 9 (Operand.tmp 37), type := 9, pos := "law.go:78", after := #[{ on := 9, ground := Ground.data }, { on := 8, ground := Ground.guard }], guard := some (8, true) }) (v := .string SP) rfl (by kernel_rfl) (by kernel_rfl) (by kernel_rfl) (fun _ _ _ h => h) (Or.inl ⟨by rfl, fun w hSw => by have hc := Coin.conv_any (HT.out.2.1.below hSw (Nat.le_refl _)) m6 c6 HT.out.2.2.1; rw [HSP.out] at hc; go_simp⟩) (by assumption) ?_
      try simp only [Act.put, List.setIfInBounds_toArray, List.set_cons_zero, List.set_cons_succ]
      refine wpAnyH_take (i := 11) (oi := { dst := some 39, op := Op.move (Operand.tmp 7), type := 30, pos := "law.go:78", after := #[{ on := 8, ground := Ground.guard }], guard := some (8, true) }) (v := .slice A7 2 2) rfl (by kernel_rfl) (by kernel_rfl) (by kernel_rfl) (fun _ _ _ h => h) (Or.inl ⟨by rfl, fun w hSw => by go_simp⟩) (by assumption) ?_
      try simp only [Act.put, List.setIfInBounds_toArray, List.set_cons_zero, List.set_cons_succ]
      refine wpAnyH_ready (rs := [12]) (by kernel_rfl) (by simp) ?_
      refine AllReadyH.cons (o := { dst := some 40, op := Op.call { callee := Callee.value (Operand.func 14), args := #[Operand.tmp 39], argTypes := #[30] }, type := 30, pos := "law.go:78", after := #[{ on := 11, ground := Ground.data }, { on := 8, ground := Ground.chain }, { on := 8, ground := Ground.guard }], guard := some (8, true) }) rfl (fun K hK => ?_) AllReadyH.nil
      go_simp
      refine (packet_any _ A7 2 2 wz.heap.size Q HT.out.2.2.2.2.1 HT.out.2.2.2.2.2.1 (HT.out.2.2.2.1.below hHeld (Nat.le_refl _)) hHeld.size HT.out.2.2.2.2.2.2.1).mono ?_
      rintro e w11 ⟨v11, rfl, O11, B11⟩
      have hb11 := hHeld.trans (B11.mono hHeld.size)
      obtain ⟨A11, c11, hv11, R11, -, -⟩ := O11.form
      obtain ⟨m11, hm11⟩ : ∃ m, m = (sealB Q).length := ⟨_, rfl⟩
      rw [← hm11] at hv11
      subst hv11
      have HM11 := Lib.hid hm11
      clear hm11
      refine hK.out _ _ (hb11) (fun hHeld => ?_)
      clear hK K
      try simp only [Act.put, List.setIfInBounds_toArray, List.set_cons_zero, List.set_cons_succ]
      refine wpAnyH_ready (rs := [13]) (by kernel_rfl) (by simp) ?_
      refine AllReadyH.cons (o := { dst := some 41, op := Op.convert 30 9 (Operand.tmp 40), type := 9, pos := "law.go:78", after := #[{ on := 12, ground := Ground.data }, { on := 8, ground := Ground.guard }], guard := some (8, true) }) rfl (fun K hK => ?_) AllReadyH.nil
      have hc := Coin.conv_any R11 m11 c11 HM11.out
      rw [← HT.out.2.2.2.2.2.2.2, HSP.out] at hc
      go_simp
      refine hK.out _ _ (hHeld) (fun hHeld => ?_)
      clear hK K
      try simp only [Act.put, List.setIfInBounds_toArray, List.set_cons_zero, List.set_cons_succ]
      clear hc
      refine wpAnyH_take (i := 14) (oi := { dst := some 42, op := Op.binOp BinOp.eql 9 (Operand.tmp 38) (Operand.tmp 41) 9, type := 4, pos := "law.go:78", after := #[{ on := 10, ground := Ground.data }, { on := 13, ground := Ground.data }, { on := 8, ground := Ground.guard }], guard := some (8, true) }) (v := .bool true) rfl (by kernel_rfl) (by kernel_rfl) (by kernel_rfl) (fun _ _ _ h => h) (Or.inl ⟨by rfl, fun w hSw => by go_simp⟩) (by assumption) ?_
      try simp only [Act.put, List.setIfInBounds_toArray, List.set_cons_zero, List.set_cons_succ]
      refine wpAnyH_take (i := 15) (oi := { dst := some 43, op := Op.pick (Operand.tmp 36) (Operand.tmp 42) (Operand.const (Value.bool false)), type := 4, pos := "law.go:78", after := #[{ on := 8, ground := Ground.data }, { on := 14, ground := Ground.data }], guard := none }) (v := .bool true) rfl (by kernel_rfl) (by kernel_rfl) (by kernel_rfl) (fun _ _ _ h => h) (Or.inl ⟨by rfl, fun w hSw => by go_simp⟩) (by assumption) ?_
      try simp only [Act.put, List.setIfInBounds_toArray, List.set_cons_zero, List.set_cons_succ]
      refine wpAnyH_take (i := 16) (oi := { dst := some 4, op := Op.assign (Operand.tmp 43), type := 4, pos := "law.go:78", after := #[{ on := 15, ground := Ground.data }, { on := 12, ground := Ground.chain }, { on := 0, ground := Ground.phase }, { on := 1, ground := Ground.phase }, { on := 2, ground := Ground.phase }, { on := 3, ground := Ground.phase }, { on := 4, ground := Ground.phase }, { on := 5, ground := Ground.phase }, { on := 6, ground := Ground.phase }, { on := 7, ground := Ground.phase }, { on := 8, ground := Ground.phase }, { on := 9, ground := Ground.phase }, { on := 10, ground := Ground.phase }, { on := 11, ground := Ground.phase }, { on := 12, ground := Ground.phase }, { on := 13, ground := Ground.phase }, { on := 14, ground := Ground.phase }, { on := 15, ground := Ground.phase }], guard := none }) (v := .bool true) rfl (by kernel_rfl) (by kernel_rfl) (by kernel_rfl) (fun _ _ _ h => h) (Or.inl ⟨by rfl, fun w hSw => by go_simp⟩) (by assumption) ?_
      try simp only [Act.put, List.setIfInBounds_toArray, List.set_cons_zero, List.set_cons_succ]
      have HE := Lib.hid hHeld
      refine wpAnyH_done (by kernel_rfl) ?_ _
      try unfold NoPanic
      go_wp2
      go_ret
      exact ⟨rfl, HT.out.1.bl.trans (HE.out.mono HT.out.1.bl.size)⟩
    · have HRT := Lib.hid hrt
      clear hrt
      go_enter Try.func3, Try.ntmps3
      go_upto_region 5 with (fail)
      generalize w.alloc _ = wb at *
      have B1 : Below wb.heap.size wb (wb.alloc (.cells #[.int .u8 (x.K : Int), .int .u64 (x.N : Int), .int .i64 x.Nd, .int .u32 (x.A : Int), .int .u8 (x.L : Int), .int .u16 (x.Sq : Int), .int .u16 (x.M : Int)] 28)) := (Below.refl _ _).alloc (Nat.le_refl _) _
      have hen := enc_any (wb.alloc (.cells #[.int .u8 (x.K : Int), .int .u64 (x.N : Int), .int .i64 x.Nd, .int .u32 (x.A : Int), .int .u8 (x.L : Int), .int .u16 (x.Sq : Int), .int .u16 (x.M : Int)] 28)) 0 1 1 (some ⟨wb.heap.size, 0, none⟩) [x] (by decide) rfl (by decide) (psl_one (x := x) rfl (heap_alloc_new wb _)) (fun y hy => by rw [List.mem_singleton.1 hy]; exact HF.out.2.2.1)
      have hen : Calls Try.prog 9 #[.agg #[.int .i64 0, .slice (some ⟨wb.heap.size, 0, none⟩) 1 1]] (wb.alloc (.cells #[.int .u8 (x.K : Int), .int .u64 (x.N : Int), .int .i64 x.Nd, .int .u32 (x.A : Int), .int .u8 (x.L : Int), .int .u16 (x.Sq : Int), .int .u16 (x.M : Int)] 28)) (CoinOwn _ (enc 0 [x])) := hen
      have hPQ := enc_one1 x HRT.out
      generalize enc 0 [x] = P at *
      have HN := Lib.hid (And.intro hen (And.intro B1 hPQ))
      clear hen B1 hPQ
      obtain ⟨⟨q0, q1, q2, q3, q4, q5, q6⟩, -⟩ := row7 HB.out.r0; have eb := HB.out.lt
      go_upto_region 9 with (first
        | (go_at_call 9; (with_reducible refine HN.out.1.mono ?_); (rintro e w6 ⟨v6, rfl, O6, B6⟩; obtain ⟨A6, c6, hv6, R6, -, -⟩ := O6.form; obtain ⟨m6, hm6⟩ : ∃ m, m = P.length := ⟨_, rfl⟩; rw [← hm6] at hv6; subst hv6; have HB6 := Lib.hid (HB.out.step (HN.out.2.1.trans (B6.mono (by simp)))); have HP6 := Lib.hid (And.intro R6 hm6); clear O6 B6 R6 hm6 eb; clear q0 q1 q2 q3 q4 q5 q6; obtain ⟨⟨q0, q1, q2, q3, q4, q5, q6⟩, -⟩ := row7 HB6.out.r0; have eb := HB6.out.lt; have R7 := Coin.Row.lit w6 [1, 0]; have B7 : Below w6.heap.size w6 (w6.alloc (.cells #[.int .u8 1, .int .u8 0] 5)) := (Below.refl _ _).alloc (Nat.le_refl _) _; have HW := Lib.hid (And.intro (show Own _ w6.heap.size (.slice (some ⟨w6.heap.size, 0, none⟩) 2 2) [1, 0] from R7.own (B := w6.heap.size) (Nat.le_refl _) (by decide)) B7); clear R7 B7))
        | (go_at_call 10; (with_reducible refine (HF.out.2.1 _).mono ?_); (rintro e w8 ⟨rfl, B8⟩; rw [HRT.out]; have HW8 := Lib.hid (And.intro (HW.out.1.kept B8) (HW.out.2.trans (B8.mono HW.out.2.size))); have HB8 := Lib.hid (HB6.out.step HW8.out.2); clear B8 eb; clear q0 q1 q2 q3 q4 q5 q6; obtain ⟨⟨q0, q1, q2, q3, q4, q5, q6⟩, -⟩ := row7 HB8.out.r0; have eb := HB8.out.lt))
        | (go_at_call 11; (with_reducible refine (HF.out.2.2.2 HRT.out _).mono ?_); (rintro e w9 ⟨v9, rfl, O9, B9⟩; obtain ⟨A9, c9, hv9, R9, -, hn9⟩ := O9.form; obtain ⟨m9, hm9⟩ : ∃ m, m = x.bytes.length := ⟨_, rfl⟩; rw [← hm9] at hv9; subst hv9; have HW9 := Lib.hid (And.intro (HW8.out.1.kept B9) (And.intro (HW8.out.2.trans (B9.mono HW8.out.2.size)) (And.intro R9 (And.intro hm9 hn9)))); clear O9 R9 hm9 hn9 B9))
        | (at_builtin; (with_reducible refine Coin.app_any rfl (.tmp 24) (.tmp 26) rfl w6.heap.size (.slice (some ⟨w6.heap.size, 0, none⟩) 2 2) [1, 0] x.bytes A9 m9 c9 _ rfl rfl HW9.out.1 HW9.out.2.2.1 HW9.out.2.2.2.1 HW9.out.2.2.2.2 (by have := x.bytes_len; simp; omega) HW9.out.2.1.size w6.heap.size w6 HW9.out.2.1 (Nat.le_refl _) ?_); (intro v10 w10 O10 B10 G10; obtain ⟨A7, c7, hv7, R7, -, hn7⟩ := O10.form; obtain ⟨m7, hm7⟩ : ∃ m, m = ([1, 0] ++ x.bytes).length := ⟨_, rfl⟩; rw [← hm7] at hv7; subst hv7; have HW10 := Lib.hid (And.intro B10 (And.intro R7 (And.intro hm7 hn7))); clear O10 B10 G10 R7 hm7 hn7)))
      have hm7l : m7 ≤ 100000 := by have h1 := HW10.out.2.2.1; have h2 := x.bytes_len; simp at h1; omega
      have HT := Lib.hid (And.intro (HB6.out.step HW10.out.1) (And.intro ((HP6.out.1.below HW10.out.1 (Nat.le_refl _)).more HW10.out.1.size) (And.intro HP6.out.2 (And.intro HW10.out.2.1 (And.intro HW10.out.2.2.1 (And.intro hm7l (And.intro HW10.out.2.2.2 HN.out.2.2)))))))
      clear q0 q1 q2 q3 q4 q5 q6 eb hm7l
      clear HW HW8 HW9 HW10 HB8 HB6 HN HP6
      generalize [1, 0] ++ x.bytes = Q at *
      generalize w10 = wz at *
      obtain ⟨SP, hSP⟩ : ∃ SP, Coin.str P = SP := ⟨_, rfl⟩
      have HSP := Lib.hid hSP
      clear hSP
      have HROW : Hid (∀ W, Below wz.heap.size wz W → W.heap[w.heap.size]? = some (.cells #[.int .u8 (x.K : Int), .int .u64 (x.N : Int), .int .i64 x.Nd, .int .u32 (x.A : Int), .int .u8 (x.L : Int), .int .u16 (x.Sq : Int), .int .u16 (x.M : Int)] 28 (0, 0))) := fun W h => (h.block w.heap.size HT.out.1.lt).trans HT.out.1.r0
      refine wp_region_noPanic ?_
      refine wp_region_held_drew (S := fun W : World => Below wz.heap.size wz W) (by kernel_rfl) ((Below.refl _ _).drew) (fun hHeld => ?_)
      generalize wz.drew = wd at *
      refine wpAnyH_ready (rs := [0]) (by kernel_rfl) (by simp) ?_
      refine AllReadyH.cons (o := { dst := some 28, op := Op.call { callee := Callee.value (Operand.func 12), args := #[], argTypes := #[] }, type := 4, pos := "law.go:78", after := #[], guard := none }) rfl (fun K hK => ?_) AllReadyH.nil
      go_simp
      refine (awake_any _).mono ?_
      rintro e w8 ⟨rfl, B8⟩
      have hb8 := hHeld.trans (B8.mono hHeld.size)
      refine hK.out _ _ (hb8) (fun hHeld => ?_)
      clear hK K
      try simp only [Act.put, List.setIfInBounds_toArray, List.set_cons_zero, List.set_cons_succ]
      refine wpAnyH_take (i := 1) (oi := { dst := some 29, op := Op.move (Operand.tmp 28), type := 4, pos := "law.go:78", after := #[{ on := 0, ground := Ground.data }, { on := 0, ground := Ground.chain }], guard := none }) (v := .bool true) rfl (by kernel_rfl) (by kernel_rfl) (by kernel_rfl) (fun _ _ _ h => h) (Or.inl ⟨by rfl, fun w hSw => by go_simp⟩) (by assumption) ?_
      try simp only [Act.put, List.setIfInBounds_toArray, List.set_cons_zero, List.set_cons_succ]
      refine wpAnyH_take (i := 2) (oi := { dst := some 30, op := Op.load 28 (Operand.tmp 2), type := 28, pos := "law.go:78", after := #[{ on := 1, ground := Ground.guard }], guard := some (1, true) }) (v := .agg #[.int .u8 (x.K : Int), .int .u64 (x.N : Int), .int .i64 x.Nd, .int .u32 (x.A : Int), .int .u8 (x.L : Int), .int .u16 (x.Sq : Int), .int .u16 (x.M : Int)]) rfl (by kernel_rfl) (by kernel_rfl) (by kernel_rfl) (fun _ _ _ h => h) (Or.inl ⟨by rfl, fun w hSw => by obtain ⟨⟨q0, q1, q2, q3, q4, q5, q6⟩, -⟩ := row7 (HROW.out _ hSw); go_simp⟩) (by assumption) ?_
      try simp only [Act.put, List.setIfInBounds_toArray, List.set_cons_zero, List.set_cons_succ]
      refine wpAnyH_take (i := 4) (oi := { dst := some 32, op := Op.load 28 (Operand.tmp 2), type := 28, pos := "law.go:78", after := #[{ on := 1, ground := Ground.guard }], guard := some (1, true) }) (v := .agg #[.int .u8 (x.K : Int), .int .u64 (x.N : Int), .int .i64 x.Nd, .int .u32 (x.A : Int), .int .u8 (x.L : Int), .int .u16 (x.Sq : Int), .int .u16 (x.M : Int)]) rfl (by kernel_rfl) (by kernel_rfl) (by kernel_rfl) (fun _ _ _ h => h) (Or.inl ⟨by rfl, fun w hSw => by obtain ⟨⟨q0, q1, q2, q3, q4, q5, q6⟩, -⟩ := row7 (HROW.out _ hSw); go_simp⟩) (by assumption) ?_
      try simp only [Act.put, List.setIfInBounds_toArray, List.set_cons_zero, List.set_cons_succ]
      refine wpAnyH_ready (rs := [3]) (by kernel_rfl) (by simp) ?_
      refine AllReadyH.cons (o := { dst := some 31, op := Op.call { callee := Callee.value (Operand.func 13), args := #[Operand.tmp 30], argTypes := #[28] }, type := 4, pos := "law.go:78", after := #[{ on := 2, ground := Ground.data }, { on := 1, ground := Ground.chain }, { on := 1, ground := Ground.guard }], guard := some (1, true) }) rfl (fun K hK => ?_) AllReadyH.nil
      go_simp
      refine (HF.out.1 _).mono ?_
      rintro e w9 ⟨rfl, B9⟩
      have hb9 := hHeld.trans (B9.mono hHeld.size)
      refine hK.out _ _ (hb9) (fun hHeld => ?_)
      clear hK K
      try simp only [Act.put, List.setIfInBounds_toArray, List.set_cons_zero, List.set_cons_succ]
      refine wpAnyH_ready (rs := [5]) (by kernel_rfl) (by simp) ?_
      refine AllReadyH.cons (o := { dst := some 33, op := Op.call { callee := Callee.value (Operand.func 10), args := #[Operand.tmp 32], argTypes := #[28] }, type := 4, pos := "law.go:78", after := #[{ on := 4, ground := Ground.data }, { on := 3, ground := Ground.chain }, { on := 1, ground := Ground.guard }], guard := some (1, true) }) rfl (fun K hK => ?_) AllReadyH.nil
      go_simp
      refine (HF.out.2.1 _).mono ?_
      rintro e w10 ⟨rfl, B10⟩
      have hb10 := hHeld.trans (B10.mono hHeld.size)
      refine hK.out _ _ (hb10) (fun hHeld => ?_)
      clear hK K
      try simp only [Act.put, List.setIfInBounds_toArray, List.set_cons_zero, List.set_cons_succ]
      refine wpAnyH_take (i := 6) (oi := { dst := some 34, op := Op.binOp BinOp.eql 4 (Operand.tmp 31) (Operand.tmp 33) 4, type := 4, pos := "law.go:78", after := #[{ on := 3, ground := Ground.data }, { on := 5, ground := Ground.data }, { on := 1, ground := Ground.guard }], guard := some (1, true) }) (v := .bool true) rfl (by kernel_rfl) (by kernel_rfl) (by kernel_rfl) (fun _ _ _ h => h) (Or.inl ⟨by rfl, fun w hSw => by go_simp⟩) (by assumption) ?_
      try simp only [Act.put, List.setIfInBounds_toArray, List.set_cons_zero, List.set_cons_succ]
      refine wpAnyH_take (i := 7) (oi := { dst := some 35, op := Op.pick (Operand.tmp 29) (Operand.tmp 34) (Operand.const (Value.bool false)), type := 4, pos := "law.go:78", after := #[{ on := 1, ground := Ground.data }, { on := 6, ground := Ground.data }], guard := none }) (v := .bool true) rfl (by kernel_rfl) (by kernel_rfl) (by kernel_rfl) (fun _ _ _ h => h) (Or.inl ⟨by rfl, fun w hSw => by go_simp⟩) (by assumption) ?_
      try simp only [Act.put, List.setIfInBounds_toArray, List.set_cons_zero, List.set_cons_succ]
      refine wpAnyH_take (i := 8) (oi := { dst := some 36, op := Op.move (Operand.tmp 35), type := 4, pos := "law.go:78", after := #[{ on := 7, ground := Ground.data }, { on := 5, ground := Ground.chain }], guard := none }) (v := .bool true) rfl (by kernel_rfl) (by kernel_rfl) (by kernel_rfl) (fun _ _ _ h => h) (Or.inl ⟨by rfl, fun w hSw => by go_simp⟩) (by assumption) ?_
      try simp only [Act.put, List.setIfInBounds_toArray, List.set_cons_zero, List.set_cons_succ]
      refine wpAnyH_take (i := 9) (oi := { dst := some 37, op := Op.move (Operand.tmp 6), type := 30, pos := "law.go:78", after := #[{ on := 8, ground := Ground.guard }], guard := some (8, true) }) (v := .slice A6 m6 c6) rfl (by kernel_rfl) (by kernel_rfl) (by kernel_rfl) (fun _ _ _ h => h) (Or.inl ⟨by rfl, fun w hSw => by go_simp⟩) (by assumption) ?_
      try simp only [Act.put, List.setIfInBounds_toArray, List.set_cons_zero, List.set_cons_succ]
      refine wpAnyH_take (i := 10) (oi := { dst := some 38, op := Op.convert 30 9 (Operand.tmp 37), type := 9, pos := "law.go:78", after := #[{ on := 9, ground := Ground.data }, { on := 8, ground := Ground.guard }], guard := some (8, true) }) (v := .string SP) rfl (by kernel_rfl) (by kernel_rfl) (by kernel_rfl) (fun _ _ _ h => h) (Or.inl ⟨by rfl, fun w hSw => by have hc := Coin.conv_any (HT.out.2.1.below hSw (Nat.le_refl _)) m6 c6 HT.out.2.2.1; rw [HSP.out] at hc; go_simp⟩) (by assumption) ?_
      try simp only [Act.put, List.setIfInBounds_toArray, List.set_cons_zero, List.set_cons_succ]
      refine wpAnyH_take (i := 11) (oi := { dst := some 39, op := Op.move (Operand.tmp 7), type := 30, pos := "law.go:78", after := #[{ on := 8, ground := Ground.guard }], guard := some (8, true) }) (v := .slice A7 m7 c7) rfl (by kernel_rfl) (by kernel_rfl) (by kernel_rfl) (fun _ _ _ h => h) (Or.inl ⟨by rfl, fun w hSw => by go_simp⟩) (by assumption) ?_
      try simp only [Act.put, List.setIfInBounds_toArray, List.set_cons_zero, List.set_cons_succ]
      refine wpAnyH_ready (rs := [12]) (by kernel_rfl) (by simp) ?_
      refine AllReadyH.cons (o := { dst := some 40, op := Op.call { callee := Callee.value (Operand.func 14), args := #[Operand.tmp 39], argTypes := #[30] }, type := 30, pos := "law.go:78", after := #[{ on := 11, ground := Ground.data }, { on := 8, ground := Ground.chain }, { on := 8, ground := Ground.guard }], guard := some (8, true) }) rfl (fun K hK => ?_) AllReadyH.nil
      go_simp
      refine (packet_any _ A7 m7 c7 wz.heap.size Q HT.out.2.2.2.2.1 HT.out.2.2.2.2.2.1 (HT.out.2.2.2.1.below hHeld (Nat.le_refl _)) hHeld.size HT.out.2.2.2.2.2.2.1).mono ?_
      rintro e w11 ⟨v11, rfl, O11, B11⟩
      have hb11 := hHeld.trans (B11.mono hHeld.size)
      obtain ⟨A11, c11, hv11, R11, -, -⟩ := O11.form
      obtain ⟨m11, hm11⟩ : ∃ m, m = (sealB Q).length := ⟨_, rfl⟩
      rw [← hm11] at hv11
      subst hv11
      have HM11 := Lib.hid hm11
      clear hm11
      refine hK.out _ _ (hb11) (fun hHeld => ?_)
      clear hK K
      try simp only [Act.put, List.setIfInBounds_toArray, List.set_cons_zero, List.set_cons_succ]
      refine wpAnyH_ready (rs := [13]) (by kernel_rfl) (by simp) ?_
      refine AllReadyH.cons (o := { dst := some 41, op := Op.convert 30 9 (Operand.tmp 40), type := 9, pos := "law.go:78", after := #[{ on := 12, ground := Ground.data }, { on := 8, ground := Ground.guard }], guard := some (8, true) }) rfl (fun K hK => ?_) AllReadyH.nil
      have hc := Coin.conv_any R11 m11 c11 HM11.out
      rw [← HT.out.2.2.2.2.2.2.2, HSP.out] at hc
      go_simp
      refine hK.out _ _ (hHeld) (fun hHeld => ?_)
      clear hK K
      try simp only [Act.put, List.setIfInBounds_toArray, List.set_cons_zero, List.set_cons_succ]
      clear hc
      refine wpAnyH_take (i := 14) (oi := { dst := some 42, op := Op.binOp BinOp.eql 9 (Operand.tmp 38) (Operand.tmp 41) 9, type := 4, pos := "law.go:78", after := #[{ on := 10, ground := Ground.data }, { on := 13, ground := Ground.data }, { on := 8, ground := Ground.guard }], guard := some (8, true) }) (v := .bool true) rfl (by kernel_rfl) (by kernel_rfl) (by kernel_rfl) (fun _ _ _ h => h) (Or.inl ⟨by rfl, fun w hSw => by go_simp⟩) (by assumption) ?_
      try simp only [Act.put, List.setIfInBounds_toArray, List.set_cons_zero, List.set_cons_succ]
      refine wpAnyH_take (i := 15) (oi := { dst := some 43, op := Op.pick (Operand.tmp 36) (Operand.tmp 42) (Operand.const (Value.bool false)), type := 4, pos := "law.go:78", after := #[{ on := 8, ground := Ground.data }, { on := 14, ground := Ground.data }], guard := none }) (v := .bool true) rfl (by kernel_rfl) (by kernel_rfl) (by kernel_rfl) (fun _ _ _ h => h) (Or.inl ⟨by rfl, fun w hSw => by go_simp⟩) (by assumption) ?_
      try simp only [Act.put, List.setIfInBounds_toArray, List.set_cons_zero, List.set_cons_succ]
      refine wpAnyH_take (i := 16) (oi := { dst := some 4, op := Op.assign (Operand.tmp 43), type := 4, pos := "law.go:78", after := #[{ on := 15, ground := Ground.data }, { on := 12, ground := Ground.chain }, { on := 0, ground := Ground.phase }, { on := 1, ground := Ground.phase }, { on := 2, ground := Ground.phase }, { on := 3, ground := Ground.phase }, { on := 4, ground := Ground.phase }, { on := 5, ground := Ground.phase }, { on := 6, ground := Ground.phase }, { on := 7, ground := Ground.phase }, { on := 8, ground := Ground.phase }, { on := 9, ground := Ground.phase }, { on := 10, ground := Ground.phase }, { on := 11, ground := Ground.phase }, { on := 12, ground := Ground.phase }, { on := 13, ground := Ground.phase }, { on := 14, ground := Ground.phase }, { on := 15, ground := Ground.phase }], guard := none }) (v := .bool true) rfl (by kernel_rfl) (by kernel_rfl) (by kernel_rfl) (fun _ _ _ h => h) (Or.inl ⟨by rfl, fun w hSw => by go_simp⟩) (by assumption) ?_
      try simp only [Act.put, List.setIfInBounds_toArray, List.set_cons_zero, List.set_cons_succ]
      have HE := Lib.hid hHeld
      refine wpAnyH_done (by kernel_rfl) ?_ _
      try unfold NoPanic
      go_wp2
      go_ret
      exact ⟨rfl, HT.out.1.bl.trans (HE.out.mono HT.out.1.bl.size)⟩
  · have h128' : (128 : Int) ≤ (hw : Int) := by omega
    have hne := near_any x w0 (w.alloc (.cells #[.int .u8 (x.K : Int), .int .u64 (x.N : Int), .int .i64 x.Nd, .int .u32 (x.A : Int), .int .u8 (x.L : Int), .int .u16 (x.Sq : Int), .int .u16 (x.M : Int)] 28))
    have hyf := near_fits w0
    have hk := w0.k
    generalize x.near = y at *
    have hne : Calls Try.prog 8 #[.agg #[.int .u8 (x.K : Int), .int .u64 (x.N : Int), .int .i64 x.Nd, .int .u32 (x.A : Int), .int .u8 (x.L : Int), .int .u16 (x.Sq : Int), .int .u16 (x.M : Int)]] (w.alloc (.cells #[.int .u8 (x.K : Int), .int .u64 (x.N : Int), .int .i64 x.Nd, .int .u32 (x.A : Int), .int .u8 (x.L : Int), .int .u16 (x.Sq : Int), .int .u16 (x.M : Int)] 28)) fun e w' => e = .returned (.agg #[.int .u8 (y.K : Int), .int .u64 (y.N : Int), .int .i64 y.Nd, .int .u32 (y.A : Int), .int .u8 (y.L : Int), .int .u16 (y.Sq : Int), .int .u16 (y.M : Int)]) ∧ Below _ _ w' := hne
    obtain ⟨k6, hk6⟩ : ∃ k6 : Nat, (x.K : Int).tmod 6 = k6 ∧ k6 < 6 := ⟨x.K % 6, by rw [Int.tmod_eq_emod_of_nonneg (by omega)]; omega, by omega⟩
    have hk6a := hk6.1
    have hk6w : IntKind.u8.wrap (k6 : Int) = k6 := by rw [IntKind.wrap_u8]; have := hk6.2; omega
    have hxf : Pt.Fits ⟨k6, y.N, y.Nd, y.A, y.L, y.Sq, y.M⟩ := ⟨by show k6 < 256; have := hk6.2; omega, hyf.n, hyf.d, hyf.d', hyf.a, hyf.l, hyf.s, hyf.m⟩
    have HN := Lib.hid (And.intro hne (And.intro ((Below.refl w.heap.size w).alloc (Nat.le_refl _) (.cells #[.int .u8 (x.K : Int), .int .u64 (x.N : Int), .int .i64 x.Nd, .int .u32 (x.A : Int), .int .u8 (x.L : Int), .int .u16 (x.Sq : Int), .int .u16 (x.M : Int)] 28)) (heap_alloc_new w (.cells #[.int .u8 (x.K : Int), .int .u64 (x.N : Int), .int .i64 x.Nd, .int .u32 (x.A : Int), .int .u8 (x.L : Int), .int .u16 (x.Sq : Int), .int .u16 (x.M : Int)] 28))))
    clear hne hyf hk hk6 b1 h128 w1 w0
    go_enter Try.func3, Try.ntmps3
    go_upto_region 4 with (go_at_call 8; (with_reducible refine HN.out.1.mono ?_); (rintro e wn ⟨rfl, Bn⟩; have h2 := (Bn.block w.heap.size (by simp)).trans HN.out.2.2; have eb : w.heap.size < wn.heap.size := (Array.getElem?_eq_some_iff.1 h2).1; obtain ⟨⟨q0, q1, q2, q3, q4, q5, q6⟩, -⟩ := row7 h2; have HM := Lib.hid (And.intro h2 (HN.out.2.1.trans (Bn.mono (by simp)))); clear h2 Bn))
    have E5 := heap_alloc_new wn (.cells #[.int .u8 (k6 : Int), .int .u64 (y.N : Int), .int .i64 y.Nd, .int .u32 (y.A : Int), .int .u8 (y.L : Int), .int .u16 (y.Sq : Int), .int .u16 (y.M : Int)] 28)
    have E2 : (wn.alloc (.cells #[.int .u8 (k6 : Int), .int .u64 (y.N : Int), .int .i64 y.Nd, .int .u32 (y.A : Int), .int .u8 (y.L : Int), .int .u16 (y.Sq : Int), .int .u16 (y.M : Int)] 28)).heap[w.heap.size]? = some (.cells #[.int .u8 (x.K : Int), .int .u64 (x.N : Int), .int .i64 x.Nd, .int .u32 (x.A : Int), .int .u8 (x.L : Int), .int .u16 (x.Sq : Int), .int .u16 (x.M : Int)] 28) := (heap_alloc_old _ _ eb).trans HM.out.1
    have E9 := Lib.hid (HM.out.2.alloc (Nat.le_of_lt eb) (.cells #[.int .u8 (k6 : Int), .int .u64 (y.N : Int), .int .i64 y.Nd, .int .u32 (y.A : Int), .int .u8 (y.L : Int), .int .u16 (y.Sq : Int), .int .u16 (y.M : Int)] 28))
    clear q0 q1 q2 q3 q4 q5 q6
    generalize wn.alloc _ = we at *
    obtain ⟨⟨q0, q1, q2, q3, q4, q5, q6⟩, -⟩ := row7 E5
    clear E5
    go_upto_region 5 with (with_reducible refine put28 rfl (.tmp 2) (.tmp 16) rfl w.heap.size rfl E2 rfl ?_; intro wb Eb Gb)
    have HB0 : Rg w wb ⟨k6, y.N, y.Nd, y.A, y.L, y.Sq, y.M⟩ := ⟨E9.out.grown Gb E9.out.size (fun k h => by cases h; exact Nat.le_refl _), Eb⟩
    have HB := Lib.hid HB0
    clear HB0 Eb Gb E2 E9 q0 q1 q2 q3 q4 q5 q6 HN HM
    generalize (⟨k6, y.N, y.Nd, y.A, y.L, y.Sq, y.M⟩ : Pt) = x at *
    have HF := Lib.hid (And.intro (fun W => (show Calls Try.prog 13 #[.agg #[.int .u8 (x.K : Int), .int .u64 (x.N : Int), .int .i64 x.Nd, .int .u32 (x.A : Int), .int .u8 (x.L : Int), .int .u16 (x.Sq : Int), .int .u16 (x.M : Int)]] W _ from right_any x hxf W)) (And.intro (fun W => (show Calls Try.prog 10 #[.agg #[.int .u8 (x.K : Int), .int .u64 (x.N : Int), .int .i64 x.Nd, .int .u32 (x.A : Int), .int .u8 (x.L : Int), .int .u16 (x.Sq : Int), .int .u16 (x.M : Int)]] W _ from rright_any x hxf W)) (And.intro hxf (fun (hr : x.rt = true) W => (show Calls Try.prog 11 #[.agg #[.int .u8 (x.K : Int), .int .u64 (x.N : Int), .int .i64 x.Nd, .int .u32 (x.A : Int), .int .u8 (x.L : Int), .int .u16 (x.Sq : Int), .int .u16 (x.M : Int)]] W _ from rbytes_any x hxf hr W)))))
    clear hxf
    cases hrt : x.rt
    · have HRT := Lib.hid hrt
      clear hrt
      have B1 : Below wb.heap.size wb (wb.alloc (.cells #[.int .u8 (x.K : Int), .int .u64 (x.N : Int), .int .i64 x.Nd, .int .u32 (x.A : Int), .int .u8 (x.L : Int), .int .u16 (x.Sq : Int), .int .u16 (x.M : Int)] 28)) := (Below.refl _ _).alloc (Nat.le_refl _) _
      have hen := enc_any (wb.alloc (.cells #[.int .u8 (x.K : Int), .int .u64 (x.N : Int), .int .i64 x.Nd, .int .u32 (x.A : Int), .int .u8 (x.L : Int), .int .u16 (x.Sq : Int), .int .u16 (x.M : Int)] 28)) 0 1 1 (some ⟨wb.heap.size, 0, none⟩) [x] (by decide) rfl (by decide) (psl_one (x := x) rfl (heap_alloc_new wb _)) (fun y hy => by rw [List.mem_singleton.1 hy]; exact HF.out.2.2.1)
      have hen : Calls Try.prog 9 #[.agg #[.int .i64 0, .slice (some ⟨wb.heap.size, 0, none⟩) 1 1]] (wb.alloc (.cells #[.int .u8 (x.K : Int), .int .u64 (x.N : Int), .int .i64 x.Nd, .int .u32 (x.A : Int), .int .u8 (x.L : Int), .int .u16 (x.Sq : Int), .int .u16 (x.M : Int)] 28)) (CoinOwn _ (enc 0 [x])) := hen
      have hPQ := enc_one0 x HRT.out
      generalize enc 0 [x] = P at *
      have HN := Lib.hid (And.intro hen (And.intro B1 hPQ))
      clear hen B1 hPQ
      obtain ⟨⟨q0, q1, q2, q3, q4, q5, q6⟩, -⟩ := row7 HB.out.r0; have eb := HB.out.lt
      go_upto_region 9 with (first
        | (go_at_call 9; (with_reducible refine HN.out.1.mono ?_); (rintro e w6 ⟨v6, rfl, O6, B6⟩; obtain ⟨A6, c6, hv6, R6, -, -⟩ := O6.form; obtain ⟨m6, hm6⟩ : ∃ m, m = P.length := ⟨_, rfl⟩; rw [← hm6] at hv6; subst hv6; have HB6 := Lib.hid (HB.out.step (HN.out.2.1.trans (B6.mono (by simp)))); have HP6 := Lib.hid (And.intro R6 hm6); clear O6 B6 R6 hm6 eb; clear q0 q1 q2 q3 q4 q5 q6; obtain ⟨⟨q0, q1, q2, q3, q4, q5, q6⟩, -⟩ := row7 HB6.out.r0; have eb := HB6.out.lt; have R7 := Coin.Row.lit w6 [1, 0]; have B7 : Below w6.heap.size w6 (w6.alloc (.cells #[.int .u8 1, .int .u8 0] 5)) := (Below.refl _ _).alloc (Nat.le_refl _) _; have HW := Lib.hid (And.intro (show Own _ w6.heap.size (.slice (some ⟨w6.heap.size, 0, none⟩) 2 2) [1, 0] from R7.own (B := w6.heap.size) (Nat.le_refl _) (by decide)) B7); clear R7 B7))
        | (go_at_call 10; (with_reducible refine (HF.out.2.1 _).mono ?_); (rintro e w8 ⟨rfl, B8⟩; rw [HRT.out]; have HW8 := Lib.hid (And.intro (HW.out.1.kept B8) (HW.out.2.trans (B8.mono HW.out.2.size))); have HB8 := Lib.hid (HB6.out.step HW8.out.2); clear B8 eb; clear q0 q1 q2 q3 q4 q5 q6; obtain ⟨⟨q0, q1, q2, q3, q4, q5, q6⟩, -⟩ := row7 HB8.out.r0; have eb := HB8.out.lt)))
      have HT := Lib.hid (And.intro HB8.out (And.intro ((HP6.out.1.below HW8.out.2 (Nat.le_refl _)).more HW8.out.2.size) (And.intro HP6.out.2 (And.intro HW8.out.1.rd (And.intro (show 2 = ([1, 0] : List UInt8).length from rfl) (And.intro (show 2 ≤ 100000 by decide) (And.intro (show (some (⟨w6.heap.size, 0, none⟩ : Addr)) = none → 2 = 0 from fun h => by cases h) HN.out.2.2)))))))
      clear q0 q1 q2 q3 q4 q5 q6 eb
      clear HW HW8 HB8 HB6 HN HP6
      generalize ([1, 0] : List UInt8) = Q at *
      generalize some (⟨w6.heap.size, 0, none⟩ : Addr) = A7 at *
      generalize w8 = wz at *
      obtain ⟨SP, hSP⟩ : ∃ SP, Coin.str P = SP := ⟨_, rfl⟩
      have HSP := Lib.hid hSP
      clear hSP
      have HROW : Hid (∀ W, Below wz.heap.size wz W → W.heap[w.heap.size]? = some (.cells #[.int .u8 (x.K : Int), .int .u64 (x.N : Int), .int .i64 x.Nd, .int .u32 (x.A : Int), .int .u8 (x.L : Int), .int .u16 (x.Sq : Int), .int .u16 (x.M : Int)] 28 (0, 0))) := fun W h => (h.block w.heap.size HT.out.1.lt).trans HT.out.1.r0
      refine wp_region_noPanic ?_
      refine wp_region_held_drew (S := fun W : World => Below wz.heap.size wz W) (by kernel_rfl) ((Below.refl _ _).drew) (fun hHeld => ?_)
      generalize wz.drew = wd at *
      refine wpAnyH_ready (rs := [0]) (by kernel_rfl) (by simp) ?_
      refine AllReadyH.cons (o := { dst := some 28, op := Op.call { callee := Callee.value (Operand.func 12), args := #[], argTypes := #[] }, type := 4, pos := "law.go:78", after := #[], guard := none }) rfl (fun K hK => ?_) AllReadyH.nil
      go_simp
      refine (awake_any _).mono ?_
      rintro e w8 ⟨rfl, B8⟩
      have hb8 := hHeld.trans (B8.mono hHeld.size)
      refine hK.out _ _ (hb8) (fun hHeld => ?_)
      clear hK K
      try simp only [Act.put, List.setIfInBounds_toArray, List.set_cons_zero, List.set_cons_succ]
      refine wpAnyH_take (i := 1) (oi := { dst := some 29, op := Op.move (Operand.tmp 28), type := 4, pos := "law.go:78", after := #[{ on := 0, ground := Ground.data }, { on := 0, ground := Ground.chain }], guard := none }) (v := .bool true) rfl (by kernel_rfl) (by kernel_rfl) (by kernel_rfl) (fun _ _ _ h => h) (Or.inl ⟨by rfl, fun w hSw => by go_simp⟩) (by assumption) ?_
      try simp only [Act.put, List.setIfInBounds_toArray, List.set_cons_zero, List.set_cons_succ]
      refine wpAnyH_take (i := 2) (oi := { dst := some 30, op := Op.load 28 (Operand.tmp 2), type := 28, pos := "law.go:78", after := #[{ on := 1, ground := Ground.guard }], guard := some (1, true) }) (v := .agg #[.int .u8 (x.K : Int), .int .u64 (x.N : Int), .int .i64 x.Nd, .int .u32 (x.A : Int), .int .u8 (x.L : Int), .int .u16 (x.Sq : Int), .int .u16 (x.M : Int)]) rfl (by kernel_rfl) (by kernel_rfl) (by kernel_rfl) (fun _ _ _ h => h) (Or.inl ⟨by rfl, fun w hSw => by obtain ⟨⟨q0, q1, q2, q3, q4, q5, q6⟩, -⟩ := row7 (HROW.out _ hSw); go_simp⟩) (by assumption) ?_
      try simp only [Act.put, List.setIfInBounds_toArray, List.set_cons_zero, List.set_cons_succ]
      refine wpAnyH_take (i := 4) (oi := { dst := some 32, op := Op.load 28 (Operand.tmp 2), type := 28, pos := "law.go:78", after := #[{ on := 1, ground := Ground.guard }], guard := some (1, true) }) (v := .agg #[.int .u8 (x.K : Int), .int .u64 (x.N : Int), .int .i64 x.Nd, .int .u32 (x.A : Int), .int .u8 (x.L : Int), .int .u16 (x.Sq : Int), .int .u16 (x.M : Int)]) rfl (by kernel_rfl) (by kernel_rfl) (by kernel_rfl) (fun _ _ _ h => h) (Or.inl ⟨by rfl, fun w hSw => by obtain ⟨⟨q0, q1, q2, q3, q4, q5, q6⟩, -⟩ := row7 (HROW.out _ hSw); go_simp⟩) (by assumption) ?_
      try simp only [Act.put, List.setIfInBounds_toArray, List.set_cons_zero, List.set_cons_succ]
      refine wpAnyH_ready (rs := [3]) (by kernel_rfl) (by simp) ?_
      refine AllReadyH.cons (o := { dst := some 31, op := Op.call { callee := Callee.value (Operand.func 13), args := #[Operand.tmp 30], argTypes := #[28] }, type := 4, pos := "law.go:78", after := #[{ on := 2, ground := Ground.data }, { on := 1, ground := Ground.chain }, { on := 1, ground := Ground.guard }], guard := some (1, true) }) rfl (fun K hK => ?_) AllReadyH.nil
      go_simp
      refine (HF.out.1 _).mono ?_
      rintro e w9 ⟨rfl, B9⟩
      have hb9 := hHeld.trans (B9.mono hHeld.size)
      refine hK.out _ _ (hb9) (fun hHeld => ?_)
      clear hK K
      try simp only [Act.put, List.setIfInBounds_toArray, List.set_cons_zero, List.set_cons_succ]
      refine wpAnyH_ready (rs := [5]) (by kernel_rfl) (by simp) ?_
      refine AllReadyH.cons (o := { dst := some 33, op := Op.call { callee := Callee.value (Operand.func 10), args := #[Operand.tmp 32], argTypes := #[28] }, type := 4, pos := "law.go:78", after := #[{ on := 4, ground := Ground.data }, { on := 3, ground := Ground.chain }, { on := 1, ground := Ground.guard }], guard := some (1, true) }) rfl (fun K hK => ?_) AllReadyH.nil
      go_simp
      refine (HF.out.2.1 _).mono ?_
      rintro e w10 ⟨rfl, B10⟩
      have hb10 := hHeld.trans (B10.mono hHeld.size)
      refine hK.out _ _ (hb10) (fun hHeld => ?_)
      clear hK K
      try simp only [Act.put, List.setIfInBounds_toArray, List.set_cons_zero, List.set_cons_succ]
      refine wpAnyH_take (i := 6) (oi := { dst := some 34, op := Op.binOp BinOp.eql 4 (Operand.tmp 31) (Operand.tmp 33) 4, type := 4, pos := "law.go:78", after := #[{ on := 3, ground := Ground.data }, { on := 5, ground := Ground.data }, { on := 1, ground := Ground.guard }], guard := some (1, true) }) (v := .bool true) rfl (by kernel_rfl) (by kernel_rfl) (by kernel_rfl) (fun _ _ _ h => h) (Or.inl ⟨by rfl, fun w hSw => by go_simp⟩) (by assumption) ?_
      try simp only [Act.put, List.setIfInBounds_toArray, List.set_cons_zero, List.set_cons_succ]
      refine wpAnyH_take (i := 7) (oi := { dst := some 35, op := Op.pick (Operand.tmp 29) (Operand.tmp 34) (Operand.const (Value.bool false)), type := 4, pos := "law.go:78", after := #[{ on := 1, ground := Ground.data }, { on := 6, ground := Ground.data }], guard := none }) (v := .bool true) rfl (by kernel_rfl) (by kernel_rfl) (by kernel_rfl) (fun _ _ _ h => h) (Or.inl ⟨by rfl, fun w hSw => by go_simp⟩) (by assumption) ?_
      try simp only [Act.put, List.setIfInBounds_toArray, List.set_cons_zero, List.set_cons_succ]
      refine wpAnyH_take (i := 8) (oi := { dst := some 36, op := Op.move (Operand.tmp 35), type := 4, pos := "law.go:78", after := #[{ on := 7, ground := Ground.data }, { on := 5, ground := Ground.chain }], guard := none }) (v := .bool true) rfl (by kernel_rfl) (by kernel_rfl) (by kernel_rfl) (fun _ _ _ h => h) (Or.inl ⟨by rfl, fun w hSw => by go_simp⟩) (by assumption) ?_
      try simp only [Act.put, List.setIfInBounds_toArray, List.set_cons_zero, List.set_cons_succ]
      refine wpAnyH_take (i := 9) (oi := { dst := some 37, op := Op.move (Operand.tmp 6), type := 30, pos := "law.go:78", after := #[{ on := 8, ground := Ground.guard }], guard := some (8, true) }) (v := .slice A6 m6 c6) rfl (by kernel_rfl) (by kernel_rfl) (by kernel_rfl) (fun _ _ _ h => h) (Or.inl ⟨by rfl, fun w hSw => by go_simp⟩) (by assumption) ?_
      try simp only [Act.put, List.setIfInBounds_toArray, List.set_cons_zero, List.set_cons_succ]
      refine wpAnyH_take (i := 10) (oi := { dst := some 38, op := Op.convert 30 9 (Operand.tmp 37), type := 9, pos := "law.go:78", after := #[{ on := 9, ground := Ground.data }, { on := 8, ground := Ground.guard }], guard := some (8, true) }) (v := .string SP) rfl (by kernel_rfl) (by kernel_rfl) (by kernel_rfl) (fun _ _ _ h => h) (Or.inl ⟨by rfl, fun w hSw => by have hc := Coin.conv_any (HT.out.2.1.below hSw (Nat.le_refl _)) m6 c6 HT.out.2.2.1; rw [HSP.out] at hc; go_simp⟩) (by assumption) ?_
      try simp only [Act.put, List.setIfInBounds_toArray, List.set_cons_zero, List.set_cons_succ]
      refine wpAnyH_take (i := 11) (oi := { dst := some 39, op := Op.move (Operand.tmp 7), type := 30, pos := "law.go:78", after := #[{ on := 8, ground := Ground.guard }], guard := some (8, true) }) (v := .slice A7 2 2) rfl (by kernel_rfl) (by kernel_rfl) (by kernel_rfl) (fun _ _ _ h => h) (Or.inl ⟨by rfl, fun w hSw => by go_simp⟩) (by assumption) ?_
      try simp only [Act.put, List.setIfInBounds_toArray, List.set_cons_zero, List.set_cons_succ]
      refine wpAnyH_ready (rs := [12]) (by kernel_rfl) (by simp) ?_
      refine AllReadyH.cons (o := { dst := some 40, op := Op.call { callee := Callee.value (Operand.func 14), args := #[Operand.tmp 39], argTypes := #[30] }, type := 30, pos := "law.go:78", after := #[{ on := 11, ground := Ground.data }, { on := 8, ground := Ground.chain }, { on := 8, ground := Ground.guard }], guard := some (8, true) }) rfl (fun K hK => ?_) AllReadyH.nil
      go_simp
      refine (packet_any _ A7 2 2 wz.heap.size Q HT.out.2.2.2.2.1 HT.out.2.2.2.2.2.1 (HT.out.2.2.2.1.below hHeld (Nat.le_refl _)) hHeld.size HT.out.2.2.2.2.2.2.1).mono ?_
      rintro e w11 ⟨v11, rfl, O11, B11⟩
      have hb11 := hHeld.trans (B11.mono hHeld.size)
      obtain ⟨A11, c11, hv11, R11, -, -⟩ := O11.form
      obtain ⟨m11, hm11⟩ : ∃ m, m = (sealB Q).length := ⟨_, rfl⟩
      rw [← hm11] at hv11
      subst hv11
      have HM11 := Lib.hid hm11
      clear hm11
      refine hK.out _ _ (hb11) (fun hHeld => ?_)
      clear hK K
      try simp only [Act.put, List.setIfInBounds_toArray, List.set_cons_zero, List.set_cons_succ]
      refine wpAnyH_ready (rs := [13]) (by kernel_rfl) (by simp) ?_
      refine AllReadyH.cons (o := { dst := some 41, op := Op.convert 30 9 (Operand.tmp 40), type := 9, pos := "law.go:78", after := #[{ on := 12, ground := Ground.data }, { on := 8, ground := Ground.guard }], guard := some (8, true) }) rfl (fun K hK => ?_) AllReadyH.nil
      have hc := Coin.conv_any R11 m11 c11 HM11.out
      rw [← HT.out.2.2.2.2.2.2.2, HSP.out] at hc
      go_simp
      refine hK.out _ _ (hHeld) (fun hHeld => ?_)
      clear hK K
      try simp only [Act.put, List.setIfInBounds_toArray, List.set_cons_zero, List.set_cons_succ]
      clear hc
      refine wpAnyH_take (i := 14) (oi := { dst := some 42, op := Op.binOp BinOp.eql 9 (Operand.tmp 38) (Operand.tmp 41) 9, type := 4, pos := "law.go:78", after := #[{ on := 10, ground := Ground.data }, { on := 13, ground := Ground.data }, { on := 8, ground := Ground.guard }], guard := some (8, true) }) (v := .bool true) rfl (by kernel_rfl) (by kernel_rfl) (by kernel_rfl) (fun _ _ _ h => h) (Or.inl ⟨by rfl, fun w hSw => by go_simp⟩) (by assumption) ?_
      try simp only [Act.put, List.setIfInBounds_toArray, List.set_cons_zero, List.set_cons_succ]
      refine wpAnyH_take (i := 15) (oi := { dst := some 43, op := Op.pick (Operand.tmp 36) (Operand.tmp 42) (Operand.const (Value.bool false)), type := 4, pos := "law.go:78", after := #[{ on := 8, ground := Ground.data }, { on := 14, ground := Ground.data }], guard := none }) (v := .bool true) rfl (by kernel_rfl) (by kernel_rfl) (by kernel_rfl) (fun _ _ _ h => h) (Or.inl ⟨by rfl, fun w hSw => by go_simp⟩) (by assumption) ?_
      try simp only [Act.put, List.setIfInBounds_toArray, List.set_cons_zero, List.set_cons_succ]
      refine wpAnyH_take (i := 16) (oi := { dst := some 4, op := Op.assign (Operand.tmp 43), type := 4, pos := "law.go:78", after := #[{ on := 15, ground := Ground.data }, { on := 12, ground := Ground.chain }, { on := 0, ground := Ground.phase }, { on := 1, ground := Ground.phase }, { on := 2, ground := Ground.phase }, { on := 3, ground := Ground.phase }, { on := 4, ground := Ground.phase }, { on := 5, ground := Ground.phase }, { on := 6, ground := Ground.phase }, { on := 7, ground := Ground.phase }, { on := 8, ground := Ground.phase }, { on := 9, ground := Ground.phase }, { on := 10, ground := Ground.phase }, { on := 11, ground := Ground.phase }, { on := 12, ground := Ground.phase }, { on := 13, ground := Ground.phase }, { on := 14, ground := Ground.phase }, { on := 15, ground := Ground.phase }], guard := none }) (v := .bool true) rfl (by kernel_rfl) (by kernel_rfl) (by kernel_rfl) (fun _ _ _ h => h) (Or.inl ⟨by rfl, fun w hSw => by go_simp⟩) (by assumption) ?_
      try simp only [Act.put, List.setIfInBounds_toArray, List.set_cons_zero, List.set_cons_succ]
      have HE := Lib.hid hHeld
      refine wpAnyH_done (by kernel_rfl) ?_ _
      try unfold NoPanic
      go_wp2
      go_ret
      exact ⟨rfl, HT.out.1.bl.trans (HE.out.mono HT.out.1.bl.size)⟩
    · have HRT := Lib.hid hrt
      clear hrt
      have B1 : Below wb.heap.size wb (wb.alloc (.cells #[.int .u8 (x.K : Int), .int .u64 (x.N : Int), .int .i64 x.Nd, .int .u32 (x.A : Int), .int .u8 (x.L : Int), .int .u16 (x.Sq : Int), .int .u16 (x.M : Int)] 28)) := (Below.refl _ _).alloc (Nat.le_refl _) _
      have hen := enc_any (wb.alloc (.cells #[.int .u8 (x.K : Int), .int .u64 (x.N : Int), .int .i64 x.Nd, .int .u32 (x.A : Int), .int .u8 (x.L : Int), .int .u16 (x.Sq : Int), .int .u16 (x.M : Int)] 28)) 0 1 1 (some ⟨wb.heap.size, 0, none⟩) [x] (by decide) rfl (by decide) (psl_one (x := x) rfl (heap_alloc_new wb _)) (fun y hy => by rw [List.mem_singleton.1 hy]; exact HF.out.2.2.1)
      have hen : Calls Try.prog 9 #[.agg #[.int .i64 0, .slice (some ⟨wb.heap.size, 0, none⟩) 1 1]] (wb.alloc (.cells #[.int .u8 (x.K : Int), .int .u64 (x.N : Int), .int .i64 x.Nd, .int .u32 (x.A : Int), .int .u8 (x.L : Int), .int .u16 (x.Sq : Int), .int .u16 (x.M : Int)] 28)) (CoinOwn _ (enc 0 [x])) := hen
      have hPQ := enc_one1 x HRT.out
      generalize enc 0 [x] = P at *
      have HN := Lib.hid (And.intro hen (And.intro B1 hPQ))
      clear hen B1 hPQ
      obtain ⟨⟨q0, q1, q2, q3, q4, q5, q6⟩, -⟩ := row7 HB.out.r0; have eb := HB.out.lt
      go_upto_region 9 with (first
        | (go_at_call 9; (with_reducible refine HN.out.1.mono ?_); (rintro e w6 ⟨v6, rfl, O6, B6⟩; obtain ⟨A6, c6, hv6, R6, -, -⟩ := O6.form; obtain ⟨m6, hm6⟩ : ∃ m, m = P.length := ⟨_, rfl⟩; rw [← hm6] at hv6; subst hv6; have HB6 := Lib.hid (HB.out.step (HN.out.2.1.trans (B6.mono (by simp)))); have HP6 := Lib.hid (And.intro R6 hm6); clear O6 B6 R6 hm6 eb; clear q0 q1 q2 q3 q4 q5 q6; obtain ⟨⟨q0, q1, q2, q3, q4, q5, q6⟩, -⟩ := row7 HB6.out.r0; have eb := HB6.out.lt; have R7 := Coin.Row.lit w6 [1, 0]; have B7 : Below w6.heap.size w6 (w6.alloc (.cells #[.int .u8 1, .int .u8 0] 5)) := (Below.refl _ _).alloc (Nat.le_refl _) _; have HW := Lib.hid (And.intro (show Own _ w6.heap.size (.slice (some ⟨w6.heap.size, 0, none⟩) 2 2) [1, 0] from R7.own (B := w6.heap.size) (Nat.le_refl _) (by decide)) B7); clear R7 B7))
        | (go_at_call 10; (with_reducible refine (HF.out.2.1 _).mono ?_); (rintro e w8 ⟨rfl, B8⟩; rw [HRT.out]; have HW8 := Lib.hid (And.intro (HW.out.1.kept B8) (HW.out.2.trans (B8.mono HW.out.2.size))); have HB8 := Lib.hid (HB6.out.step HW8.out.2); clear B8 eb; clear q0 q1 q2 q3 q4 q5 q6; obtain ⟨⟨q0, q1, q2, q3, q4, q5, q6⟩, -⟩ := row7 HB8.out.r0; have eb := HB8.out.lt))
        | (go_at_call 11; (with_reducible refine (HF.out.2.2.2 HRT.out _).mono ?_); (rintro e w9 ⟨v9, rfl, O9, B9⟩; obtain ⟨A9, c9, hv9, R9, -, hn9⟩ := O9.form; obtain ⟨m9, hm9⟩ : ∃ m, m = x.bytes.length := ⟨_, rfl⟩; rw [← hm9] at hv9; subst hv9; have HW9 := Lib.hid (And.intro (HW8.out.1.kept B9) (And.intro (HW8.out.2.trans (B9.mono HW8.out.2.size)) (And.intro R9 (And.intro hm9 hn9)))); clear O9 R9 hm9 hn9 B9))
        | (at_builtin; (with_reducible refine Coin.app_any rfl (.tmp 24) (.tmp 26) rfl w6.heap.size (.slice (some ⟨w6.heap.size, 0, none⟩) 2 2) [1, 0] x.bytes A9 m9 c9 _ rfl rfl HW9.out.1 HW9.out.2.2.1 HW9.out.2.2.2.1 HW9.out.2.2.2.2 (by have := x.bytes_len; simp; omega) HW9.out.2.1.size w6.heap.size w6 HW9.out.2.1 (Nat.le_refl _) ?_); (intro v10 w10 O10 B10 G10; obtain ⟨A7, c7, hv7, R7, -, hn7⟩ := O10.form; obtain ⟨m7, hm7⟩ : ∃ m, m = ([1, 0] ++ x.bytes).length := ⟨_, rfl⟩; rw [← hm7] at hv7; subst hv7; have HW10 := Lib.hid (And.intro B10 (And.intro R7 (And.intro hm7 hn7))); clear O10 B10 G10 R7 hm7 hn7)))
      have hm7l : m7 ≤ 100000 := by have h1 := HW10.out.2.2.1; have h2 := x.bytes_len; simp at h1; omega
      have HT := Lib.hid (And.intro (HB6.out.step HW10.out.1) (And.intro ((HP6.out.1.below HW10.out.1 (Nat.le_refl _)).more HW10.out.1.size) (And.intro HP6.out.2 (And.intro HW10.out.2.1 (And.intro HW10.out.2.2.1 (And.intro hm7l (And.intro HW10.out.2.2.2 HN.out.2.2)))))))
      clear q0 q1 q2 q3 q4 q5 q6 eb hm7l
      clear HW HW8 HW9 HW10 HB8 HB6 HN HP6
      generalize [1, 0] ++ x.bytes = Q at *
      generalize w10 = wz at *
      obtain ⟨SP, hSP⟩ : ∃ SP, Coin.str P = SP := ⟨_, rfl⟩
      have HSP := Lib.hid hSP
      clear hSP
      have HROW : Hid (∀ W, Below wz.heap.size wz W → W.heap[w.heap.size]? = some (.cells #[.int .u8 (x.K : Int), .int .u64 (x.N : Int), .int .i64 x.Nd, .int .u32 (x.A : Int), .int .u8 (x.L : Int), .int .u16 (x.Sq : Int), .int .u16 (x.M : Int)] 28 (0, 0))) := fun W h => (h.block w.heap.size HT.out.1.lt).trans HT.out.1.r0
      refine wp_region_noPanic ?_
      refine wp_region_held_drew (S := fun W : World => Below wz.heap.size wz W) (by kernel_rfl) ((Below.refl _ _).drew) (fun hHeld => ?_)
      generalize wz.drew = wd at *
      refine wpAnyH_ready (rs := [0]) (by kernel_rfl) (by simp) ?_
      refine AllReadyH.cons (o := { dst := some 28, op := Op.call { callee := Callee.value (Operand.func 12), args := #[], argTypes := #[] }, type := 4, pos := "law.go:78", after := #[], guard := none }) rfl (fun K hK => ?_) AllReadyH.nil
      go_simp
      refine (awake_any _).mono ?_
      rintro e w8 ⟨rfl, B8⟩
      have hb8 := hHeld.trans (B8.mono hHeld.size)
      refine hK.out _ _ (hb8) (fun hHeld => ?_)
      clear hK K
      try simp only [Act.put, List.setIfInBounds_toArray, List.set_cons_zero, List.set_cons_succ]
      refine wpAnyH_take (i := 1) (oi := { dst := some 29, op := Op.move (Operand.tmp 28), type := 4, pos := "law.go:78", after := #[{ on := 0, ground := Ground.data }, { on := 0, ground := Ground.chain }], guard := none }) (v := .bool true) rfl (by kernel_rfl) (by kernel_rfl) (by kernel_rfl) (fun _ _ _ h => h) (Or.inl ⟨by rfl, fun w hSw => by go_simp⟩) (by assumption) ?_
      try simp only [Act.put, List.setIfInBounds_toArray, List.set_cons_zero, List.set_cons_succ]
      refine wpAnyH_take (i := 2) (oi := { dst := some 30, op := Op.load 28 (Operand.tmp 2), type := 28, pos := "law.go:78", after := #[{ on := 1, ground := Ground.guard }], guard := some (1, true) }) (v := .agg #[.int .u8 (x.K : Int), .int .u64 (x.N : Int), .int .i64 x.Nd, .int .u32 (x.A : Int), .int .u8 (x.L : Int), .int .u16 (x.Sq : Int), .int .u16 (x.M : Int)]) rfl (by kernel_rfl) (by kernel_rfl) (by kernel_rfl) (fun _ _ _ h => h) (Or.inl ⟨by rfl, fun w hSw => by obtain ⟨⟨q0, q1, q2, q3, q4, q5, q6⟩, -⟩ := row7 (HROW.out _ hSw); go_simp⟩) (by assumption) ?_
      try simp only [Act.put, List.setIfInBounds_toArray, List.set_cons_zero, List.set_cons_succ]
      refine wpAnyH_take (i := 4) (oi := { dst := some 32, op := Op.load 28 (Operand.tmp 2), type := 28, pos := "law.go:78", after := #[{ on := 1, ground := Ground.guard }], guard := some (1, true) }) (v := .agg #[.int .u8 (x.K : Int), .int .u64 (x.N : Int), .int .i64 x.Nd, .int .u32 (x.A : Int), .int .u8 (x.L : Int), .int .u16 (x.Sq : Int), .int .u16 (x.M : Int)]) rfl (by kernel_rfl) (by kernel_rfl) (by kernel_rfl) (fun _ _ _ h => h) (Or.inl ⟨by rfl, fun w hSw => by obtain ⟨⟨q0, q1, q2, q3, q4, q5, q6⟩, -⟩ := row7 (HROW.out _ hSw); go_simp⟩) (by assumption) ?_
      try simp only [Act.put, List.setIfInBounds_toArray, List.set_cons_zero, List.set_cons_succ]
      refine wpAnyH_ready (rs := [3]) (by kernel_rfl) (by simp) ?_
      refine AllReadyH.cons (o := { dst := some 31, op := Op.call { callee := Callee.value (Operand.func 13), args := #[Operand.tmp 30], argTypes := #[28] }, type := 4, pos := "law.go:78", after := #[{ on := 2, ground := Ground.data }, { on := 1, ground := Ground.chain }, { on := 1, ground := Ground.guard }], guard := some (1, true) }) rfl (fun K hK => ?_) AllReadyH.nil
      go_simp
      refine (HF.out.1 _).mono ?_
      rintro e w9 ⟨rfl, B9⟩
      have hb9 := hHeld.trans (B9.mono hHeld.size)
      refine hK.out _ _ (hb9) (fun hHeld => ?_)
      clear hK K
      try simp only [Act.put, List.setIfInBounds_toArray, List.set_cons_zero, List.set_cons_succ]
      refine wpAnyH_ready (rs := [5]) (by kernel_rfl) (by simp) ?_
      refine AllReadyH.cons (o := { dst := some 33, op := Op.call { callee := Callee.value (Operand.func 10), args := #[Operand.tmp 32], argTypes := #[28] }, type := 4, pos := "law.go:78", after := #[{ on := 4, ground := Ground.data }, { on := 3, ground := Ground.chain }, { on := 1, ground := Ground.guard }], guard := some (1, true) }) rfl (fun K hK => ?_) AllReadyH.nil
      go_simp
      refine (HF.out.2.1 _).mono ?_
      rintro e w10 ⟨rfl, B10⟩
      have hb10 := hHeld.trans (B10.mono hHeld.size)
      refine hK.out _ _ (hb10) (fun hHeld => ?_)
      clear hK K
      try simp only [Act.put, List.setIfInBounds_toArray, List.set_cons_zero, List.set_cons_succ]
      refine wpAnyH_take (i := 6) (oi := { dst := some 34, op := Op.binOp BinOp.eql 4 (Operand.tmp 31) (Operand.tmp 33) 4, type := 4, pos := "law.go:78", after := #[{ on := 3, ground := Ground.data }, { on := 5, ground := Ground.data }, { on := 1, ground := Ground.guard }], guard := some (1, true) }) (v := .bool true) rfl (by kernel_rfl) (by kernel_rfl) (by kernel_rfl) (fun _ _ _ h => h) (Or.inl ⟨by rfl, fun w hSw => by go_simp⟩) (by assumption) ?_
      try simp only [Act.put, List.setIfInBounds_toArray, List.set_cons_zero, List.set_cons_succ]
      refine wpAnyH_take (i := 7) (oi := { dst := some 35, op := Op.pick (Operand.tmp 29) (Operand.tmp 34) (Operand.const (Value.bool false)), type := 4, pos := "law.go:78", after := #[{ on := 1, ground := Ground.data }, { on := 6, ground := Ground.data }], guard := none }) (v := .bool true) rfl (by kernel_rfl) (by kernel_rfl) (by kernel_rfl) (fun _ _ _ h => h) (Or.inl ⟨by rfl, fun w hSw => by go_simp⟩) (by assumption) ?_
      try simp only [Act.put, List.setIfInBounds_toArray, List.set_cons_zero, List.set_cons_succ]
      refine wpAnyH_take (i := 8) (oi := { dst := some 36, op := Op.move (Operand.tmp 35), type := 4, pos := "law.go:78", after := #[{ on := 7, ground := Ground.data }, { on := 5, ground := Ground.chain }], guard := none }) (v := .bool true) rfl (by kernel_rfl) (by kernel_rfl) (by kernel_rfl) (fun _ _ _ h => h) (Or.inl ⟨by rfl, fun w hSw => by go_simp⟩) (by assumption) ?_
      try simp only [Act.put, List.setIfInBounds_toArray, List.set_cons_zero, List.set_cons_succ]
      refine wpAnyH_take (i := 9) (oi := { dst := some 37, op := Op.move (Operand.tmp 6), type := 30, pos := "law.go:78", after := #[{ on := 8, ground := Ground.guard }], guard := some (8, true) }) (v := .slice A6 m6 c6) rfl (by kernel_rfl) (by kernel_rfl) (by kernel_rfl) (fun _ _ _ h => h) (Or.inl ⟨by rfl, fun w hSw => by go_simp⟩) (by assumption) ?_
      try simp only [Act.put, List.setIfInBounds_toArray, List.set_cons_zero, List.set_cons_succ]
      refine wpAnyH_take (i := 10) (oi := { dst := some 38, op := Op.convert 30 9 (Operand.tmp 37), type := 9, pos := "law.go:78", after := #[{ on := 9, ground := Ground.data }, { on := 8, ground := Ground.guard }], guard := some (8, true) }) (v := .string SP) rfl (by kernel_rfl) (by kernel_rfl) (by kernel_rfl) (fun _ _ _ h => h) (Or.inl ⟨by rfl, fun w hSw => by have hc := Coin.conv_any (HT.out.2.1.below hSw (Nat.le_refl _)) m6 c6 HT.out.2.2.1; rw [HSP.out] at hc; go_simp⟩) (by assumption) ?_
      try simp only [Act.put, List.setIfInBounds_toArray, List.set_cons_zero, List.set_cons_succ]
      refine wpAnyH_take (i := 11) (oi := { dst := some 39, op := Op.move (Operand.tmp 7), type := 30, pos := "law.go:78", after := #[{ on := 8, ground := Ground.guard }], guard := some (8, true) }) (v := .slice A7 m7 c7) rfl (by kernel_rfl) (by kernel_rfl) (by kernel_rfl) (fun _ _ _ h => h) (Or.inl ⟨by rfl, fun w hSw => by go_simp⟩) (by assumption) ?_
      try simp only [Act.put, List.setIfInBounds_toArray, List.set_cons_zero, List.set_cons_succ]
      refine wpAnyH_ready (rs := [12]) (by kernel_rfl) (by simp) ?_
      refine AllReadyH.cons (o := { dst := some 40, op := Op.call { callee := Callee.value (Operand.func 14), args := #[Operand.tmp 39], argTypes := #[30] }, type := 30, pos := "law.go:78", after := #[{ on := 11, ground := Ground.data }, { on := 8, ground := Ground.chain }, { on := 8, ground := Ground.guard }], guard := some (8, true) }) rfl (fun K hK => ?_) AllReadyH.nil
      go_simp
      refine (packet_any _ A7 m7 c7 wz.heap.size Q HT.out.2.2.2.2.1 HT.out.2.2.2.2.2.1 (HT.out.2.2.2.1.below hHeld (Nat.le_refl _)) hHeld.size HT.out.2.2.2.2.2.2.1).mono ?_
      rintro e w11 ⟨v11, rfl, O11, B11⟩
      have hb11 := hHeld.trans (B11.mono hHeld.size)
      obtain ⟨A11, c11, hv11, R11, -, -⟩ := O11.form
      obtain ⟨m11, hm11⟩ : ∃ m, m = (sealB Q).length := ⟨_, rfl⟩
      rw [← hm11] at hv11
      subst hv11
      have HM11 := Lib.hid hm11
      clear hm11
      refine hK.out _ _ (hb11) (fun hHeld => ?_)
      clear hK K
      try simp only [Act.put, List.setIfInBounds_toArray, List.set_cons_zero, List.set_cons_succ]
      refine wpAnyH_ready (rs := [13]) (by kernel_rfl) (by simp) ?_
      refine AllReadyH.cons (o := { dst := some 41, op := Op.convert 30 9 (Operand.tmp 40), type := 9, pos := "law.go:78", after := #[{ on := 12, ground := Ground.data }, { on := 8, ground := Ground.guard }], guard := some (8, true) }) rfl (fun K hK => ?_) AllReadyH.nil
      have hc := Coin.conv_any R11 m11 c11 HM11.out
      rw [← HT.out.2.2.2.2.2.2.2, HSP.out] at hc
      go_simp
      refine hK.out _ _ (hHeld) (fun hHeld => ?_)
      clear hK K
      try simp only [Act.put, List.setIfInBounds_toArray, List.set_cons_zero, List.set_cons_succ]
      clear hc
      refine wpAnyH_take (i := 14) (oi := { dst := some 42, op := Op.binOp BinOp.eql 9 (Operand.tmp 38) (Operand.tmp 41) 9, type := 4, pos := "law.go:78", after := #[{ on := 10, ground := Ground.data }, { on := 13, ground := Ground.data }, { on := 8, ground := Ground.guard }], guard := some (8, true) }) (v := .bool true) rfl (by kernel_rfl) (by kernel_rfl) (by kernel_rfl) (fun _ _ _ h => h) (Or.inl ⟨by rfl, fun w hSw => by go_simp⟩) (by assumption) ?_
      try simp only [Act.put, List.setIfInBounds_toArray, List.set_cons_zero, List.set_cons_succ]
      refine wpAnyH_take (i := 15) (oi := { dst := some 43, op := Op.pick (Operand.tmp 36) (Operand.tmp 42) (Operand.const (Value.bool false)), type := 4, pos := "law.go:78", after := #[{ on := 8, ground := Ground.data }, { on := 14, ground := Ground.data }], guard := none }) (v := .bool true) rfl (by kernel_rfl) (by kernel_rfl) (by kernel_rfl) (fun _ _ _ h => h) (Or.inl ⟨by rfl, fun w hSw => by go_simp⟩) (by assumption) ?_
      try simp only [Act.put, List.setIfInBounds_toArray, List.set_cons_zero, List.set_cons_succ]
      refine wpAnyH_take (i := 16) (oi := { dst := some 4, op := Op.assign (Operand.tmp 43), type := 4, pos := "law.go:78", after := #[{ on := 15, ground := Ground.data }, { on := 12, ground := Ground.chain }, { on := 0, ground := Ground.phase }, { on := 1, ground := Ground.phase }, { on := 2, ground := Ground.phase }, { on := 3, ground := Ground.phase }, { on := 4, ground := Ground.phase }, { on := 5, ground := Ground.phase }, { on := 6, ground := Ground.phase }, { on := 7, ground := Ground.phase }, { on := 8, ground := Ground.phase }, { on := 9, ground := Ground.phase }, { on := 10, ground := Ground.phase }, { on := 11, ground := Ground.phase }, { on := 12, ground := Ground.phase }, { on := 13, ground := Ground.phase }, { on := 14, ground := Ground.phase }, { on := 15, ground := Ground.phase }], guard := none }) (v := .bool true) rfl (by kernel_rfl) (by kernel_rfl) (by kernel_rfl) (fun _ _ _ h => h) (Or.inl ⟨by rfl, fun w hSw => by go_simp⟩) (by assumption) ?_
      try simp only [Act.put, List.setIfInBounds_toArray, List.set_cons_zero, List.set_cons_succ]
      have HE := Lib.hid hHeld
      refine wpAnyH_done (by kernel_rfl) ?_ _
      try unfold NoPanic
      go_wp2
      go_ret
      exact ⟨rfl, HT.out.1.bl.trans (HE.out.mono HT.out.1.bl.size)⟩

set_option maxRecDepth 100000 in
theorem lifted (os : Os) (started : os.Started) (H : Type) (enc : TypeId × Value → H) :
    ReturnsInHanded {} Try.checked os 3 .any (Rows.messageRightsSpec.pre6 enc Try.prog Try.f3 Rows.messageRightsRow.domain false) (Rows.messageRightsSpec.post enc Try.prog Try.f3 false true false false) := by
  refine returnsInHanded_of_change (C := Try.checked) own started (by kernel_rfl) Try.func3
    (ChangeSpec.witness6 (enc := enc) (C := Try.checked) false ⟨#[], #[.agg #[.int .u8 0, .int .u64 0, .int .i64 0, .int .u32 0, .int .u8 0, .int .u16 0, .int .u16 0], .int .u8 0], []⟩ 8 (by kernel_rfl) (by kernel_rfl) (by kernel_rfl) (by kernel_rfl)) ?_
  intro W base args ds gs before hval0 hW hcnd _
  have hval : ∀ (j : Nat) t v, Try.f3.params[j]? = some t → args[j]? = some v → Value.okWide Try.prog W .any base t v := hval0
  have hW' := hW
  obtain ⟨p, q, hA0, hV, rfl, hfz, hnd⟩ := hW
  have hA : DataW.TrodAll enc Try.prog W 0 (fun _ => true) true Try.f3.params.toList args.toList ds p := hA0
  rw [Try.params3] at hA hval
  obtain ⟨v0, vs0, d0, ds0, p0, q0, hargs, rfl, rfl, h0, r0⟩ := trodAll_cons hA
  obtain ⟨v1, vs1, d1, ds1, p1, q1, rfl, rfl, rfl, h1, r1⟩ := trodAll_cons r0
  obtain ⟨rfl, rfl, rfl⟩ := trodAll_nil r1
  obtain rfl : args = #[v0, v1] := by cases args; simp_all
  obtain ⟨rfl, rfl⟩ := trodVars_none hV
  have k0 := h0
  have lt0 : ∀ x ∈ p0, x.block < W.heap.size := by obtain ⟨m, hm⟩ := k0; exact DataW.trod_lt m _ _ _ hm
  obtain ⟨x0, w0, rfl⟩ := part_val (hval 0 28 v0 rfl rfl) h0
  obtain ⟨a1, rfl, rfl, rfl, w1⟩ := open_int Try.underlying5 (hval 1 5 v1 rfl rfl) h1
  clear hA0 hval0
  refine (walk x0 a1 W w0 w1).mono fun e W' ⟨he, bel⟩ => ?_
  subst he
  exact ⟨_, rfl, _, _, _, [], _, [], hW', trodAll_mk1 (shut_bool Try.underlying4 _), (trodAll_cons_mk (Below.trod laidOut (by kernel_rfl) (of_decide_eq_true (by kernel_rfl)) k0 bel lt0) (trodAll_cons_mk (shut_int Try.underlying5 w1) trodAll_mk0)), rfl, bel.frame _, fun h => by cases h⟩

theorem over : Rows.messageRightsRow.holds Try.pinned (OpenSpec.ofChange Rows.messageRightsSpec) :=
  OpenClaim.holds_of_wide 3 Try.f3 rfl rfl rfl rfl rfl rfl rfl ⟨rfl, rfl, rfl, rfl, rfl⟩ rfl rfl rfl rfl rfl (by kernel_rfl) Try.func3 (by kernel_rfl)
    (of_decide_eq_true (by kernel_rfl)) (by unfold Func.isWrapper; first | (rw [if_pos (by decide +kernel)]; kernel_rfl) | (rw [if_neg (by decide +kernel)]; exact ⟨rfl, rfl⟩))
    (fun os started H enc _ => lifted os started H enc)

theorem proved : Rows.MessageRightsSaid := over
#print axioms proved
end Go.Proofs.Ytecfblkagbdjlaa.messageRights
