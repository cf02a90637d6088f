/-
  'For every input the Go function milestonelaw05.ShelfSafe returns true, and each argument reads behind the call as it read before.'
  Conditions: none but the row's own (linux/amd64, sizes of what is read within the address space).
-/
import Derived.Test.YtkalgonkaoiapaaRows
import Derived.WalkKit
import Derived.ProofKit
import Derived.OpenShut
import Derived.ShutString
import Derived.ChangeOld
import Derived.Below
import Derived.Lib.SmallJoins
import Derived.Lib.Hide
import Derived.Test.YtkalgonkaoiapaaRgc
namespace Go.Proofs.Ytkalgonkaoiapaa.shelfSafe
open Shf
open Go.ChangeShapes Go.WideShapes Go.ChangeAt Go.RowKit
open Go.ChangeMaps (open_string shut_string)
set_option linter.unusedVariables false

theorem own : ownKnob Try.prog.godebug = none := by kernel_rfl
theorem laidOut : laidOutB Try.prog = true := by kernel_rfl

/-- What the walk is told of a slice of integers that came in. -/
def IsRow (k : IntKind) (w : World) (a : Option Addr) (len cap : Nat) (zs : List Int) : Prop :=
  (a = none ∧ len = 0 ∧ cap = 0 ∧ zs = []) ∨
  ∃ x, a = some x ∧ len ≤ cap ∧ cap ≤ maxLen ∧ zs.length = cap ∧ (∀ i, i < zs.length → w.cell? (x.add i) = some (.int k (zs.getD i 0))) ∧ ∀ n ∈ zs, (Lit.int k n).wf = true

theorem bytes_of {w : World} {a : Option Addr} {len cap : Nat} {z : List Int} (h : IsRow .u8 w a len cap z) : ∃ l : List UInt8, len = l.length ∧ len ≤ maxLen ∧ len ≤ cap ∧ Rd w a l ∧ (a = none → cap = 0) := by
  rcases h with ⟨rfl, rfl, rfl, rfl⟩ | ⟨x, rfl, h1, h2, h3, h4, h5⟩
  · exact ⟨[], rfl, by unfold maxLen; omega, Nat.le_refl _, fun h => by simp at h, fun _ => rfl⟩
  · refine ⟨(z.take len).map fun n => UInt8.ofNat n.toNat, by simp; omega, by omega, h1, fun h0 => ⟨x, rfl, fun j hj => ?_⟩, fun h => by cases h⟩
    simp at hj
    have hz : z[j] ∈ z := List.getElem_mem _
    have hb := bounds_u8 (h5 _ hz)
    have hc := h4 j (by omega)
    have e : z.getD j 0 = z[j] := by rw [List.getD_eq_getElem?_getD, List.getElem?_eq_getElem]; rfl
    rw [e] at hc
    rw [hc]
    simp only [List.getElem_map, List.getElem_take, b8]
    congr 2
    simp; omega


/-- Between two acts: what was safe is. -/
def SafeAt (w wr : World) (q g b : Nat) (p : S) (k : Nat) : Prop := ∃ (T : Nat → Tag) (m : M) (cs : Array Value) (x : X), Both w wr T q g m cs x ∧ x.Inv k ∧ m.done ≤ 4 + k ∧ m.room = 1048576 ∧ Kept m b p ∧ T b = .file
theorem acts_at {w : World} {a : Option Addr} {len : Nat} {ds : List ActD} (h : len = ds.length ∧ ∀ k (hk : k < ds.length), ∃ b o, a = some ⟨b, o, none⟩ ∧ b < w.heap.size ∧ ActAt w b (o + k * 5) ds[k]) {k : Nat} (hk : k < len) : ∃ b o d, a = some ⟨b, o, none⟩ ∧ b < w.heap.size ∧ ActAt w b (o + k * 5) d := by
  obtain ⟨_, h4⟩ := h
  obtain ⟨b, o, e, hb, hd⟩ := h4 k (by omega)
  exact ⟨b, o, _, e, hb, hd⟩

set_option maxRecDepth 8000 in
set_option maxHeartbeats 2000000 in
theorem walk (a0 : Option Addr) (len0 cap0 : Nat) (z0 : List Int) (a1 : Option Addr) (len1 cap1 : Nat) (z1 : List ActD) (a2 : Int) (a3 : Int) (w : World) (w0 : IsRow .u8 w a0 len0 cap0 z0) (w1 : IsActs w a1 len1 cap1 z1) (w2 : (Lit.int .i64 a2).wf = true) (w3 : (Lit.int .i64 a3).wf = true) :
    Calls Try.prog 3 #[.slice a0 len0 cap0, .slice a1 len1 cap1, .int .i64 a2, .int .i64 a3] w fun e w' => e = .returned (.bool true) ∧ Below w.heap.size w w' := by
  obtain ⟨p, hp1, hp2, hp3, RP, hpn⟩ := bytes_of w0
  obtain ⟨hl1, hl2, hl3, HA⟩ := w1
  have kn := bounds_i64 w2
  have kb := bounds_i64 w3
  clear w0
  unfold maxLen at hp2 hl3
  by_cases h1 : 100 < p.length
  · have h1' : (100 : Int) < len0 := by omega
    clear hp1 h1 hl1 HA
    go_enter Try.func3, Try.ntmps3
    go_wp2_with fail
    refine (awake_any _).mono ?_
    rintro e w1 ⟨rfl, h1⟩
    go_wp2_with fail
    refine (awake_any _).mono ?_
    rintro e w2 ⟨rfl, h2⟩
    go_wp2_with fail
    go_ret
    exact ⟨rfl, h1.trans (h2.mono h1.size)⟩
  by_cases h2 : 40 < len1
  · have h1' : ¬ (100 : Int) < len0 := by omega
    have h2' : (40 : Int) < len1 := by omega
    clear hp1 h1 h2 hl1 HA
    go_enter Try.func3, Try.ntmps3
    go_wp2_with fail
    refine (awake_any _).mono ?_
    rintro e w1 ⟨rfl, h1⟩
    go_wp2_with fail
    refine (awake_any _).mono ?_
    rintro e w2 ⟨rfl, h2⟩
    go_wp2_with fail
    go_ret
    exact ⟨rfl, h1.trans (h2.mono h1.size)⟩
  have h1' : ¬ (100 : Int) < len0 := by omega
  have h2' : ¬ (40 : Int) < len1 := by omega
  have HP : Hid (len0 = p.length ∧ p.length ≤ 100) := ⟨hp1, by omega⟩
  have HRP := Lib.hid RP
  have HA' := Lib.hid (And.intro hl1 HA)
  have HW := Lib.hid (And.intro w2 w3)
  have hl40 : len1 ≤ 40 := by omega
  clear RP hp1 h1 h2 hl1 HA w2 w3
  go_enter Try.func3, Try.ntmps3
  go_wp2_with (first
    | (go_at_call 9; refine (awake_any _).mono ?_; rintro e w1 ⟨rfl, B0⟩; have c10 := new_rep w1 1048576 (by omega))
    | (go_at_call 10; refine c10.mono ?_; rintro e w2 ⟨q, T1, rfl, R1, B1, L1⟩; have c11 : Calls Try.prog 11 #[.pointer (some ⟨q, 0, none⟩), .string ⟨#[122]⟩] w2 _ := create_rep w2 T1 q (M.new 1048576) zN R1 (show 0 < 10000000 by decide) (by decide); have hB2 := B0.trans (B1.mono B0.size); have L1 : ∀ k, T1 k ≠ .none → w.heap.size ≤ k := fun k hk => Nat.le_trans B0.size (L1 k hk); clear c10)
    | (go_at_call 11; refine c11.mono ?_; rintro e w3 ⟨rfl, T3, b, R3, X3, _⟩; rw [(Shf.z1 1048576 b).1] at R3; have L3 := X3.low hB2.size L1 R3; have B3 := hB2.trans (X3.below hB2.size L1); have c12 := append_rep w3 T3 q _ zN p a0 cap0 R3 (show 1 < 1000000000 by decide) (by decide) (HRP.out.in B3 L3) hpn (by have := HP.out; omega) (show -1000000000000 ≤ (1048576 : Int) by decide); rw [(Shf.z2 1048576 b p (by have := HP.out; omega)).1, (Shf.z2 1048576 b p (by have := HP.out; omega)).2, ← HP.out.1] at c12; have c12 : Calls Try.prog 12 #[.pointer (some ⟨q, 0, none⟩), .string ⟨#[122]⟩, .slice a0 len0 cap0] w3 _ := c12; clear c11)
    | (go_at_call 12; refine c12.mono ?_; rintro e w4 ⟨rfl, T4, R4, X4⟩; have L4 := X4.low B3.size L3 R4; have B4 := B3.trans (X4.below B3.size L3); have c13 : Calls Try.prog 13 #[.pointer (some ⟨q, 0, none⟩), .string ⟨#[122]⟩] w4 _ := sync_rep w4 T4 q _ zN R4 (show 2 < 1000000000 by decide) (by decide); rw [Shf.z3] at c13; clear c12)
    | (go_at_call 13; refine c13.mono ?_; rintro e w5 ⟨rfl, T5, R5, X5⟩; have L5 := X5.low B4.size L4 R5; have B5 := B4.trans (X5.below B4.size L4); have c14 := names_rep w5 T5 q _ R5 (show 3 < 100000000 by decide); rw [(Shf.z4 1048576 b p).1, (Shf.z4 1048576 b p).2] at c14; clear c13)
    | (go_at_call 14; refine c14.mono ?_; rintro e w6 ⟨rfl, T6, R6, X6⟩; have L6 := X6.low B5.size L5 R6; have B6 := B5.trans (X6.below B5.size L5); have c15 := xnew_any w6 T6 1048576 (fun b hb => by obtain ⟨⟨nv, sv, mv, nn, ns, RV⟩, _⟩ := R6; exact RV.old b hb); clear c14)
    | (go_at_call 15; refine c15.mono ?_; rintro e w7 ⟨xv, rfl, RX7, B7⟩; obtain ⟨A1, n1, c1, A2, n2, c2, A3, n3, c3, rm, lf, of, dn, rfl⟩ := RX7.form5; have BT := both_new B6 L6 R6 B7 RX7; have HF : Hid (T6 b = .file) := (R6.fileOf (name := zN) (by simp [Z4, st, Shf.get])); clear RX7 B7 c15 R6 X6 L6 B6 X5 L5 B5 R5 R4 X4 L4 B4 R3 X3 L3 B3 hB2 L1 R1 B1 B0)
    | go_in)
  generalize w7.alloc _ = w8 at *
  generalize w7.heap.size = g at *
  have hS : SafeAt w w8 q g b p 0 := ⟨T6, _, _, _, BT, X.new_inv _, by show (4 : Nat) ≤ 4 + 0; omega, rfl, Shf.z4_kept _ _ _, HF.out⟩
  clear BT HF
  go_loopw [11] (fun i wr => ∃ k : Nat, k ≤ len1 ∧ i = .int .i64 k ∧ SafeAt w wr q g b p k) (fun i _ => len1 - (intOf i).toNat)
  case atStart => exact ⟨0, by omega, rfl, hS⟩
  case round =>
    obtain ⟨k, hk, rfl, S⟩ := hrel
    clear hS
    by_cases hlt : k < len1
    · obtain ⟨b0, o0, d, ea, hb0, hd⟩ := acts_at HA'.out hlt
      subst ea
      have ho := hd.1
      obtain ⟨T, m, cs, x, BT, IX, hm, hr, KP, hF⟩ := S
      obtain ⟨A1, n1, c1, A2, n2, c2, A3, n3, c3, rm, lf, of, dn, ecs⟩ := BT.rx.form5
      injection ecs with ecs
      subst ecs
      by_cases h60 : 60 < d.p.length
      · have hcells := act5 hd hb0 BT.be
        obtain ⟨y0, y1, y2, y3, y4⟩ := hcells
        have h60' : (60 : Int) < (d.p.length : Int) := by omega
        go_wp2
        go_ret
        exact ⟨rfl, BT.be⟩
      have h60' : ¬ (60 : Int) < (d.p.length : Int) := by omega
      by_cases h10 : d.K % 12 = 10
      · have hcells := act5 hd hb0 BT.be
        obtain ⟨y0, y1, y2, y3, y4⟩ := hcells
        have h10' : ((d.K : Int) % 12 != 10) = false := by simp; omega
        go_wp2
        go_roundw
        case rel => exact ⟨k + 1, by omega, by go_num, T, m, _, x, BT, IX.mono, by omega, hr, KP, hF⟩
        case measure => simp [intOf]; omega
      · have h10' : ((d.K : Int) % 12 != 10) = true := by simp; omega
        obtain ⟨y0, y1, y2, y3, y4⟩ := act5 hd hb0 BT.be
        go_upto_region 16 with (fail)
        clear y0 y1 y2 y3 y4
        refine wp_region_noPanic ?_
        refine wp_region_held_drew (S := fun x : World => Below w.heap.size w x) (by kernel_rfl) (BT.be.drew) (fun hHeld => ?_)
        replace BT := BT.drew
        generalize wr.drew = wd at *
        refine wpAnyH_take (i := 0) (oi := { dst := some 60, op := Op.move (Operand.tmp 9), type := 25, pos := "law.go:145", after := #[], guard := none }) (v := .pointer (some ⟨q, 0, none⟩)) rfl (by kernel_rfl) (by kernel_rfl) (by kernel_rfl) (fun _ _ _ h => h) (Or.inl ⟨by rfl, fun w hSw => by go_simp⟩) (by assumption) ?_
        try simp only [Act.put, List.setIfInBounds_toArray, List.set_cons_zero, List.set_cons_succ]
        refine wpAnyH_take (i := 2) (oi := { dst := some 62, op := Op.move (Operand.tmp 1), type := 23, pos := "law.go:145", after := #[], guard := none }) (v := .slice (some ⟨b0, o0, none⟩) len1 cap1) rfl (by kernel_rfl) (by kernel_rfl) (by kernel_rfl) (fun _ _ _ h => h) (Or.inl ⟨by rfl, fun w hSw => by go_simp⟩) (by assumption) ?_
        try simp only [Act.put, List.setIfInBounds_toArray, List.set_cons_zero, List.set_cons_succ]
        refine wpAnyH_take (i := 3) (oi := { dst := some 63, op := Op.move (Operand.tmp 11), type := 3, pos := "law.go:145", after := #[], guard := none }) (v := .int .i64 (k : Int)) rfl (by kernel_rfl) (by kernel_rfl) (by kernel_rfl) (fun _ _ _ h => h) (Or.inl ⟨by rfl, fun w hSw => by go_simp⟩) (by assumption) ?_
        try simp only [Act.put, List.setIfInBounds_toArray, List.set_cons_zero, List.set_cons_succ]
        refine wpAnyH_take (i := 4) (oi := { dst := some 64, op := Op.indexAddr 23 (Operand.tmp 62) (Operand.tmp 63), type := 0, pos := "law.go:145", after := #[{ on := 2, ground := Ground.data }, { on := 3, ground := Ground.data }], guard := none }) (v := .pointer (some ⟨b0, o0 + k * 5, none⟩)) rfl (by kernel_rfl) (by kernel_rfl) (by kernel_rfl) (fun _ _ _ h => h) (Or.inl ⟨by rfl, fun w hSw => by go_simp⟩) (by assumption) ?_
        try simp only [Act.put, List.setIfInBounds_toArray, List.set_cons_zero, List.set_cons_succ]
        refine wpAnyH_take (i := 5) (oi := { dst := some 65, op := Op.load 38 (Operand.tmp 64), type := 38, pos := "law.go:145", after := #[{ on := 4, ground := Ground.data }], guard := none }) (v := .agg #[.int .u8 (d.K : Int), .int .u8 (d.A : Int), .int .u8 (d.B : Int), .int .i64 d.N, .slice d.Ap d.p.length d.cp]) rfl (by kernel_rfl) (by kernel_rfl) (by kernel_rfl) (fun _ _ _ h => h) (Or.inl ⟨by rfl, fun w hSw => by obtain ⟨y0, y1, y2, y3, y4⟩ := act5 hd hb0 hSw; go_simp⟩) (by assumption) ?_
        try simp only [Act.put, List.setIfInBounds_toArray, List.set_cons_zero, List.set_cons_succ]
        refine wpAnyH_ready (rs := [1]) (by kernel_rfl) (by simp) ?_
        refine AllReadyH.cons (o := { dst := some 61, op := Op.load 35 (Operand.tmp 10), type := 35, pos := "law.go:145", after := #[], guard := none }) rfl (fun K hK => ?_) AllReadyH.nil
        have zz := row7 BT.bx
        have g0 := zz.1
        have g1 := zz.2.1
        have g2 := zz.2.2.1
        have g3 := zz.2.2.2.1
        have g4 := zz.2.2.2.2.1
        have g5 := zz.2.2.2.2.2.1
        have g6 := zz.2.2.2.2.2.2.1
        clear zz
        go_simp
        refine hK.out _ _ (hHeld) (fun hHeld => ?_)
        clear hK K
        try simp only [Act.put, List.setIfInBounds_toArray, List.set_cons_zero, List.set_cons_succ]
        clear g0 g1 g2 g3 g4 g5 g6
        refine wpAnyH_ready (rs := [6]) (by kernel_rfl) (by simp) ?_
        refine AllReadyH.cons (o := { dst := some 66, op := Op.call { callee := Callee.value (Operand.func 16), args := #[Operand.tmp 60, Operand.tmp 61, Operand.tmp 65], argTypes := #[25, 35, 38] }, type := 39, pos := "law.go:145", after := #[{ on := 0, ground := Ground.data }, { on := 1, ground := Ground.data }, { on := 5, ground := Ground.data }], guard := none }) rfl (fun K hK => ?_) AllReadyH.nil
        go_simp
        refine (both_do BT IX (by omega) (by omega) hd (by omega) (by omega)).mono ?_
        rintro e w9 ⟨T9, A4, n4, c4, A5, n5, c5, A6, n6, c6, r9, l9, o9, d9, m9, b9, rfl, hD9, H9, hF9⟩
        refine hK.out _ _ (H9.be) (fun hHeld => ?_)
        clear hK K
        try simp only [Act.put, List.setIfInBounds_toArray, List.set_cons_zero, List.set_cons_succ]
        refine wpAnyH_take (i := 7) (oi := { dst := some 59, op := Op.move (Operand.tmp 66), type := 39, pos := "law.go:145", after := #[{ on := 6, ground := Ground.data }], guard := none }) (v := .tuple #[.agg #[.slice A4 n4 c4, .slice A5 n5 c5, .slice A6 n6 c6, .int .i64 r9, .int .i64 l9, .bool o9, .int .i64 d9], .bool b9]) rfl (by kernel_rfl) (by kernel_rfl) (by kernel_rfl) (fun _ _ _ h => h) (Or.inl ⟨by rfl, fun w hSw => by go_simp⟩) (by assumption) ?_
        try simp only [Act.put, List.setIfInBounds_toArray, List.set_cons_zero, List.set_cons_succ]
        refine wpAnyH_take (i := 8) (oi := { dst := some 67, op := Op.extract (Operand.tmp 59) 0, type := 35, pos := "law.go:145", after := #[{ on := 7, ground := Ground.data }], guard := none }) (v := .agg #[.slice A4 n4 c4, .slice A5 n5 c5, .slice A6 n6 c6, .int .i64 r9, .int .i64 l9, .bool o9, .int .i64 d9]) rfl (by kernel_rfl) (by kernel_rfl) (by kernel_rfl) (fun _ _ _ h => h) (Or.inl ⟨by rfl, fun w hSw => by go_simp⟩) (by assumption) ?_
        try simp only [Act.put, List.setIfInBounds_toArray, List.set_cons_zero, List.set_cons_succ]
        refine wpAnyH_take (i := 9) (oi := { dst := some 68, op := Op.extract (Operand.tmp 59) 1, type := 4, pos := "law.go:145", after := #[{ on := 7, ground := Ground.data }, { on := 10, ground := Ground.gcOnly Departure.lateStores }], guard := none }) (v := .bool b9) rfl (by kernel_rfl) (by kernel_rfl) (by kernel_rfl) (fun _ _ _ h => h) (Or.inl ⟨by rfl, fun w hSw => by go_simp⟩) (by assumption) ?_
        try simp only [Act.put, List.setIfInBounds_toArray, List.set_cons_zero, List.set_cons_succ]
        refine wpAnyH_ready (rs := [10]) (by kernel_rfl) (by simp) ?_
        refine AllReadyH.cons (o := { dst := none, op := Op.store 35 (Operand.tmp 10) (Operand.tmp 67), type := 0, pos := "law.go:145", after := #[{ on := 8, ground := Ground.data }, { on := 6, ground := Ground.chain }, { on := 0, ground := Ground.phase }, { on := 1, ground := Ground.phase }, { on := 2, ground := Ground.phase }, { on := 3, ground := Ground.phase }, { on := 4, ground := Ground.phase }, { on := 5, ground := Ground.phase }, { on := 6, ground := Ground.phase }, { on := 7, ground := Ground.phase }, { on := 8, ground := Ground.phase }, { on := 9, ground := Ground.textOnly Departure.lateStores }], guard := none }) rfl (fun K hK => ?_) AllReadyH.nil
        have zz := row7 H9.bx
        have t0 := zz.1
        have t1 := zz.2.1
        have t2 := zz.2.2.1
        have t3 := zz.2.2.2.1
        have t4 := zz.2.2.2.2.1
        have t5 := zz.2.2.2.2.2.1
        have t6 := zz.2.2.2.2.2.2.1
        have tf := zz.2.2.2.2.2.2.2
        clear zz
        have B10 := put7_both H9
        clear H9
        go_simp
        refine hK.out _ _ (B10.be) (fun hHeld => ?_)
        clear hK K
        try simp only [Act.put, List.setIfInBounds_toArray, List.set_cons_zero, List.set_cons_succ]
        refine wpAnyH_done (by kernel_rfl) ?_ _
        try unfold NoPanic
        obtain ⟨KP9, hs9⟩ := And.intro (hD9.kept KP hF) (hD9.small h10)
        have hS9 : SafeAt w _ q g b p (k + 1) := ⟨_, _, _, _, B10, doX_inv IX d.K d.A d.B d.N d.p (by omega), by omega, by omega, KP9, hF9 _ hF⟩
        clear B10
        go_wp2
        go_roundw
        case rel => exact ⟨k + 1, by omega, by go_num, hS9⟩
        case measure => simp [intOf]; omega
    · obtain ⟨T, m, cs, x, BT, IX, hm, hr, KP, hF⟩ := S
      have hd : m.done < 10000000 := by omega
      have c17 := fall_rep wr T q m a2 a3 BT.rp hd
      have EK := Lib.hid (KP.read a2 a3)
      have HBT := Lib.hid (And.intro BT.be BT.lo)
      clear BT IX KP hF hr hm hd HA' HW kn kb
      obtain rfl : k = len1 := by omega
      clear hk hlt
      go_wp2_with (first
        | (go_at_call 17; refine c17.mono ?_; rintro e w8 ⟨rfl, T8, R8, X8⟩; have B8 := HBT.out.1.trans (X8.below HBT.out.1.size HBT.out.2); have c18 : Calls Try.prog 18 #[.pointer (some ⟨q, 0, none⟩), .string ⟨#[122]⟩] w8 _ := read_rep w8 T8 q _ zN R8 (by decide); rw [EK.out.1, EK.out.2] at c18; clear c17)
        | (go_at_call 18; refine c18.mono ?_; rintro e w9 ⟨v, rfl, ⟨O9, _⟩, B9⟩; have B9 := B8.trans (B9.mono B8.size); obtain ⟨A9, c9, hv, r9, _, _, _⟩ := O9.form; subst hv; rw [← HP.out.1]; have cv1 := conv_any (w := w9) (A := A9) r9 len0 c9 HP.out.1; clear O9 r9; have cv2 := conv_any (w := w9) (A := a0) (HRP.out.at (fun ad e h0 => B9.block _ (HRP.out.lt h0 ad e))) len0 cap0 HP.out.1; generalize str p = t1 at *; clear c18)
        | go_in)
      go_ret
      exact ⟨rfl, ⟨B9.os, B9.tape, B9.output, B9.size, B9.block⟩⟩

set_option maxRecDepth 100000 in
theorem lifted (os : Os) (started : os.Started) (H : Type) (enc : TypeId × Value → H) :
    ReturnsInHanded {} Try.checked os 3 .any (Rows.shelfSafeSpec.pre6 enc Try.prog Try.f3 Rows.shelfSafeRow.domain false) (Rows.shelfSafeSpec.post enc Try.prog Try.f3 false true false false) := by
  refine returnsInHanded_of_change (C := Try.checked) own started (by kernel_rfl) Try.func3
    (ChangeSpec.witness6 (enc := enc) (C := Try.checked) false ⟨#[], #[.slice none 0 0, .slice none 0 0, .int .i64 0, .int .i64 0], []⟩ 8 (by kernel_rfl) (by kernel_rfl) (by kernel_rfl) (by kernel_rfl)) ?_
  intro W base args ds gs before hval0 hW hcnd _
  have hval : ∀ (j : Nat) t v, Try.f3.params[j]? = some t → args[j]? = some v → Value.okWide Try.prog W .any base t v := hval0
  have hW' := hW
  obtain ⟨p, q, hA0, hV, rfl, hfz, hnd⟩ := hW
  have hA : DataW.TrodAll enc Try.prog W 0 (fun _ => true) true Try.f3.params.toList args.toList ds p := hA0
  rw [Try.params3] at hA hval
  obtain ⟨v0, vs0, d0, ds0, p0, q0, hargs, rfl, rfl, h0, r0⟩ := trodAll_cons hA
  obtain ⟨v1, vs1, d1, ds1, p1, q1, rfl, rfl, rfl, h1, r1⟩ := trodAll_cons r0
  obtain ⟨v2, vs2, d2, ds2, p2, q2, rfl, rfl, rfl, h2, r2⟩ := trodAll_cons r1
  obtain ⟨v3, vs3, d3, ds3, p3, q3, rfl, rfl, rfl, h3, r3⟩ := trodAll_cons r2
  obtain ⟨rfl, rfl, rfl⟩ := trodAll_nil r3
  obtain rfl : args = #[v0, v1, v2, v3] := by cases args; simp_all
  obtain ⟨rfl, rfl⟩ := trodVars_none hV
  obtain ⟨a0, len0, cap0, rfl⟩ := okWide_slice Try.underlying22 (hval 0 22 v0 rfl rfl)
  have k0 := h0
  have lt0 : ∀ x ∈ p0, x.block < W.heap.size := by obtain ⟨m, hm⟩ := k0; exact DataW.trod_lt m _ _ _ hm
  obtain ⟨z0, w0⟩ : ∃ zs, IsRow .u8 W a0 len0 cap0 zs := by
    obtain ⟨fuel, hf⟩ := h0
    rcases open_ints Try.underlying22 Try.underlying5 (by kernel_rfl) hf with ⟨hcs, _⟩ | ⟨x, l, c, zs, hcs, _, hl, hm, hz, _, hcell, hwz⟩
    · simp [Value.cells] at hcs
      obtain ⟨rfl, rfl, rfl⟩ := hcs
      exact ⟨[], .inl ⟨rfl, rfl, rfl, rfl⟩⟩
    · simp [Value.cells] at hcs
      obtain ⟨rfl, rfl, rfl⟩ := hcs
      exact ⟨zs, .inr ⟨_, rfl, hl, hm, by simpa using hz, hcell, hwz⟩⟩
  obtain ⟨a1, len1, cap1, rfl⟩ := okWide_slice Try.underlying23 (hval 1 23 v1 rfl rfl)
  have k1 := h1
  have lt1 : ∀ x ∈ p1, x.block < W.heap.size := by obtain ⟨m, hm⟩ := k1; exact DataW.trod_lt m _ _ _ hm
  obtain ⟨z1, w1⟩ : ∃ zs, IsActs W a1 len1 cap1 zs := by
    obtain ⟨fuel, hf⟩ := h1
    obtain ⟨a, l, c, ds, hcs, hds⟩ := acts_of hf
    simp [Value.cells] at hcs
    obtain ⟨rfl, rfl, rfl⟩ := hcs
    exact ⟨ds, hds⟩
  obtain ⟨a2, rfl, rfl, rfl, w2⟩ := open_int Try.underlying3 (hval 2 3 v2 rfl rfl) h2
  obtain ⟨a3, rfl, rfl, rfl, w3⟩ := open_int Try.underlying3 (hval 3 3 v3 rfl rfl) h3
  clear hA0 hval0
  refine (walk a0 len0 cap0 z0 a1 len1 cap1 z1 a2 a3 W w0 w1 w2 w3).mono fun e W' ⟨he, bel⟩ => ?_
  subst he
  exact ⟨_, rfl, _, _, _, [], _, [], hW', trodAll_mk1 (shut_bool Try.underlying4 _), (trodAll_cons_mk (Below.trod laidOut (by kernel_rfl) (of_decide_eq_true (by kernel_rfl)) k0 bel lt0) (trodAll_cons_mk (Below.trod laidOut (by kernel_rfl) (of_decide_eq_true (by kernel_rfl)) k1 bel lt1) (trodAll_cons_mk (shut_int Try.underlying3 w2) (trodAll_cons_mk (shut_int Try.underlying3 w3) trodAll_mk0)))), rfl, bel.frame _, fun h => by cases h⟩

theorem over : Rows.shelfSafeRow.holds Try.pinned (OpenSpec.ofChange Rows.shelfSafeSpec) :=
  OpenClaim.holds_of_wide 3 Try.f3 rfl rfl rfl rfl rfl rfl rfl ⟨rfl, rfl, rfl, rfl, rfl⟩ rfl rfl rfl rfl rfl (by kernel_rfl) Try.func3 (by kernel_rfl)
    (of_decide_eq_true (by kernel_rfl)) (by unfold Func.isWrapper; first | (rw [if_pos (by decide +kernel)]; kernel_rfl) | (rw [if_neg (by decide +kernel)]; exact ⟨rfl, rfl⟩))
    (fun os started H enc _ => lifted os started H enc)

theorem proved : Rows.ShelfSafeSaid := over
#print axioms proved
end Go.Proofs.Ytkalgonkaoiapaa.shelfSafe
