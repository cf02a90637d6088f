/-
  'For every input the Go function milestonelaw05.ShelfKeeps returns true, and each argument reads behind the call as it read before.'
  Conditions: none but the row's own (linux/amd64, sizes of what is read within the address space).
-/
import Derived.Test.YtkalgonkaoiapaaRows
import Derived.WalkKit
import Derived.ProofKit
import Derived.OpenShut
import Derived.ShutString
import Derived.ChangeOld
import Derived.Below
import Derived.Lib.SmallJoins
import Derived.Lib.Hide
import Derived.Test.YtkalgonkaoiapaaKpm
namespace Go.Proofs.Ytkalgonkaoiapaa.shelfKeeps
open Shf
open Go.ChangeShapes Go.WideShapes Go.ChangeAt Go.RowKit
open Go.ChangeMaps (open_string shut_string)
set_option linter.unusedVariables false

theorem own : ownKnob Try.prog.godebug = none := by kernel_rfl
theorem laidOut : laidOutB Try.prog = true := by kernel_rfl

/-- What the walk is told of a slice of integers that came in. -/
def IsRow (k : IntKind) (w : World) (a : Option Addr) (len cap : Nat) (zs : List Int) : Prop :=
  (a = none ∧ len = 0 ∧ cap = 0 ∧ zs = []) ∨
  ∃ x, a = some x ∧ len ≤ cap ∧ cap ≤ maxLen ∧ zs.length = cap ∧ (∀ i, i < zs.length → w.cell? (x.add i) = some (.int k (zs.getD i 0))) ∧ ∀ n ∈ zs, (Lit.int k n).wf = true

theorem bytes_of {w : World} {a : Option Addr} {len cap : Nat} {z : List Int} (h : IsRow .u8 w a len cap z) : ∃ l : List UInt8, len = l.length ∧ len ≤ maxLen ∧ len ≤ cap ∧ Rd w a l ∧ (a = none → cap = 0) := by
  rcases h with ⟨rfl, rfl, rfl, rfl⟩ | ⟨x, rfl, h1, h2, h3, h4, h5⟩
  · exact ⟨[], rfl, by unfold maxLen; omega, Nat.le_refl _, fun h => by simp at h, fun _ => rfl⟩
  · refine ⟨(z.take len).map fun n => UInt8.ofNat n.toNat, by simp; omega, by omega, h1, fun h0 => ⟨x, rfl, fun j hj => ?_⟩, fun h => by cases h⟩
    simp at hj
    have hz : z[j] ∈ z := List.getElem_mem _
    have hb := bounds_u8 (h5 _ hz)
    have hc := h4 j (by omega)
    have e : z.getD j 0 = z[j] := by rw [List.getD_eq_getElem?_getD, List.getElem?_eq_getElem]; rfl
    rw [e] at hc
    rw [hc]
    simp only [List.getElem_map, List.getElem_take, b8]
    congr 2
    simp; omega

set_option maxRecDepth 8000 in
set_option maxHeartbeats 2000000 in
theorem walk (a0 : Option Addr) (len0 cap0 : Nat) (z0 : List Int) (a1 : Option Addr) (len1 cap1 : Nat) (z1 : List Int) (a2 : Int) (w : World) (w0 : IsRow .u8 w a0 len0 cap0 z0) (w1 : IsRow .u8 w a1 len1 cap1 z1) (w2 : (Lit.int .i64 a2).wf = true) :
    Calls Try.prog 6 #[.slice a0 len0 cap0, .slice a1 len1 cap1, .int .i64 a2] w fun e w' => e = .returned (.bool true) ∧ Below w.heap.size w w' := by
  obtain ⟨p, hp1, hp2, hp3, RP, hpn⟩ := bytes_of w0
  obtain ⟨r, hr1, hr2, hr3, RR, hrn⟩ := bytes_of w1
  have kb := bounds_i64 w2
  clear w0 w1 w2
  unfold maxLen at hp2 hr2
  by_cases h1 : 60 < p.length
  · have h1' : (60 : Int) < len0 := by omega
    clear hp1 hr1 h1
    go_enter Try.func6, Try.ntmps6
    go_wp2_with fail
    refine (awake_any _).mono ?_
    rintro e w1 ⟨rfl, h1⟩
    go_wp2_with fail
    refine (awake_any _).mono ?_
    rintro e w2 ⟨rfl, h2⟩
    go_wp2_with fail
    go_ret
    exact ⟨rfl, h1.trans (h2.mono h1.size)⟩
  by_cases h2 : 60 < r.length
  · have h1' : ¬ (60 : Int) < len0 := by omega
    have h2' : (60 : Int) < len1 := by omega
    clear hp1 hr1 h1 h2
    go_enter Try.func6, Try.ntmps6
    go_wp2_with fail
    refine (awake_any _).mono ?_
    rintro e w1 ⟨rfl, h1⟩
    go_wp2_with fail
    refine (awake_any _).mono ?_
    rintro e w2 ⟨rfl, h2⟩
    go_wp2_with fail
    go_ret
    exact ⟨rfl, h1.trans (h2.mono h1.size)⟩
  have h1' : ¬ (60 : Int) < len0 := by omega
  have h2' : ¬ (60 : Int) < len1 := by omega
  have hpl : len0 = p.length ∧ len1 = r.length ∧ p.length ≤ 60 ∧ r.length ≤ 60 := ⟨hp1, hr1, by omega, by omega⟩
  have HP := Lib.hid hpl
  clear hp1 hr1 h1 h2 hpl
  have HRP := Lib.hid RP
  have HRR := Lib.hid RR
  clear RP RR
  rcases (by omega : a2 < 0 ∨ (len1 : Int) < a2 ∨ (0 ≤ a2 ∧ a2 ≤ (len1 : Int))) with c | c | c
  · have HK : Hid (0 = min a2.toNat r.length ∧ 0 ≤ r.length) := ⟨by omega, by omega⟩
    go_enter Try.func6, Try.ntmps6
    go_wp2_with (first
      | (go_at_call 9; refine (awake_any _).mono ?_; rintro e w1 ⟨rfl, B0⟩; have c10 := new_rep w1 1000 (by omega))
      | (go_at_call 10; refine c10.mono ?_; rintro e w2 ⟨q, T1, rfl, R1, B1, L1⟩; have c11 : Calls Try.prog 11 #[.pointer (some ⟨q, 0, none⟩), .string ⟨#[97]⟩] w2 _ := create_rep w2 T1 q (M.new 1000) [97] R1 (show 0 < 10000000 by decide) (by decide); have hB2 := B0.trans (B1.mono B0.size); have L1 : ∀ k, T1 k ≠ .none → w.heap.size ≤ k := fun k hk => Nat.le_trans B0.size (L1 k hk); clear c10)
      | (go_at_call 11; refine c11.mono ?_; rintro e w3 ⟨rfl, T3, b, R3, X3, _⟩; rw [(k1 1000 b).1] at R3; have L3 := X3.low hB2.size L1 R3; have B3 := hB2.trans (X3.below hB2.size L1); have c12 := append_rep w3 T3 q _ [97] p a0 cap0 R3 (show 1 < 1000000000 by decide) (by decide) (HRP.out.in B3 L3) hpn (by have := HP.out; omega) (show -1000000000000 ≤ (1000 : Int) by decide); rw [(k2 1000 b p (by have := HP.out; omega)).1, (k2 1000 b p (by have := HP.out; omega)).2, ← HP.out.1] at c12; clear c11)
      | (go_at_call 12; refine c12.mono ?_; rintro e w4 ⟨rfl, T4, R4, X4⟩; have L4 := X4.low B3.size L3 R4; have B4 := B3.trans (X4.below B3.size L3); have c13 : Calls Try.prog 13 #[.pointer (some ⟨q, 0, none⟩), .string ⟨#[97]⟩] w4 _ := sync_rep w4 T4 q _ [97] R4 (show 2 < 1000000000 by decide) (by decide); rw [k3] at c13; clear c12)
      | (go_at_call 13; refine c13.mono ?_; rintro e w5 ⟨rfl, T5, R5, X5⟩; have L5 := X5.low B4.size L4 R5; have B5 := B4.trans (X5.below B4.size L4); have c14 := names_rep w5 T5 q _ R5 (show 3 < 100000000 by decide); rw [k4] at c14; clear c13)
      | (go_at_call 14; refine c14.mono ?_; rintro e w6 ⟨rfl, T6, R6, X6⟩; have L6 := X6.low B5.size L5 R6; have B6 := B5.trans (X6.below B5.size L5); have d12 := append_rep w6 T6 q _ [97] r a1 cap1 R6 (show 4 < 1000000000 by decide) (by decide) (HRR.out.in B6 L6) hrn (by have := HP.out; omega) (show -1000000000000 ≤ (1000 : Int) by decide); rw [k5 1000 b p r (by have := HP.out; omega), ← HP.out.2.1] at d12; clear c14)
      | (go_at_call 12; refine d12.mono ?_; rintro e w7 ⟨rfl, T7, R7, X7⟩; have L7 := X7.low B6.size L6 R7; have B7 := B6.trans (X7.below B6.size L6); have c17 := fall_rep w7 T7 q _ 0 a2 R7 (show 5 < 10000000 by decide); clear d12)
      | (go_at_call 17; refine c17.mono ?_; rintro e w8 ⟨rfl, T8, R8, X8⟩; have L8 := X8.low B7.size L7 R8; have B8 := B7.trans (X8.below B7.size L7); have c18 : Calls Try.prog 18 #[.pointer (some ⟨q, 0, none⟩), .string ⟨#[97]⟩] w8 _ := read_rep w8 T8 q _ [97] R8 (by decide); rw [(k6 1000 b p r a2).1, (k6 1000 b p r a2).2] at c18; clear c17)
      | (go_at_call 18; refine c18.mono ?_; rintro e w9 ⟨v, rfl, ⟨O9, _⟩, B9⟩; have B9 := B8.trans (B9.mono B8.size); obtain ⟨A9, c9, hv, r9, _, _, _⟩ := O9.form; subst hv; obtain ⟨L9, hL9⟩ : ∃ L, L = (p ++ r.take (min a2.toNat r.length)).length := ⟨_, rfl⟩; rw [← hL9]; have cv1 := fun n => conv_any (w := w9.drewN n) (A := A9) r9 L9 c9 hL9; clear hL9 O9 r9; have cv2 := fun n => conv_any (w := w9.drewN n) (A := a0) (HRP.out.at (fun ad e h0 => B9.block _ (HRP.out.lt h0 ad e))) len0 cap0 HP.out.1; have cv3 := fun n => conv_any (w := w9.drewN n) (A := a1) (Rd.take (HRR.out.at (fun ad e h0 => B9.block _ (HRR.out.lt h0 ad e))) 0) 0 cap1 (by rw [List.length_take]; have := HK.out; omega); have e9 : ((str (p ++ r.take (min a2.toNat r.length))).toList == (str p ++ str (r.take 0)).toList) = true := (by rw [str_app, ← HK.out.1]; simp); have hsum : ¬ 9223372036854775807 < (str p).size + (str (r.take 0)).size := (by rw [str_size, str_size, List.length_take]; have := HP.out; omega); generalize str (p ++ r.take (min a2.toNat r.length)) = t1 at *; generalize str p = t2 at *; generalize str (r.take 0) = t3 at *; clear c18)
      | go_in)
    go_quiet (fail)
    go_wp2
    go_ret
    exact ⟨rfl, ⟨B9.os, B9.tape, B9.output, B9.size, B9.block⟩⟩
  · have HK : Hid (len1 = min a2.toNat r.length ∧ len1 ≤ r.length) := ⟨by have := HP.out; omega, by have := HP.out; omega⟩
    have c0 : ¬ a2 < 0 := by omega
    have c2 : (len1 : Int) ≤ (cap1 : Int) := by omega
    go_enter Try.func6, Try.ntmps6
    go_wp2_with (first
      | (go_at_call 9; refine (awake_any _).mono ?_; rintro e w1 ⟨rfl, B0⟩; have c10 := new_rep w1 1000 (by omega))
      | (go_at_call 10; refine c10.mono ?_; rintro e w2 ⟨q, T1, rfl, R1, B1, L1⟩; have c11 : Calls Try.prog 11 #[.pointer (some ⟨q, 0, none⟩), .string ⟨#[97]⟩] w2 _ := create_rep w2 T1 q (M.new 1000) [97] R1 (show 0 < 10000000 by decide) (by decide); have hB2 := B0.trans (B1.mono B0.size); have L1 : ∀ k, T1 k ≠ .none → w.heap.size ≤ k := fun k hk => Nat.le_trans B0.size (L1 k hk); clear c10)
      | (go_at_call 11; refine c11.mono ?_; rintro e w3 ⟨rfl, T3, b, R3, X3, _⟩; rw [(k1 1000 b).1] at R3; have L3 := X3.low hB2.size L1 R3; have B3 := hB2.trans (X3.below hB2.size L1); have c12 := append_rep w3 T3 q _ [97] p a0 cap0 R3 (show 1 < 1000000000 by decide) (by decide) (HRP.out.in B3 L3) hpn (by have := HP.out; omega) (show -1000000000000 ≤ (1000 : Int) by decide); rw [(k2 1000 b p (by have := HP.out; omega)).1, (k2 1000 b p (by have := HP.out; omega)).2, ← HP.out.1] at c12; clear c11)
      | (go_at_call 12; refine c12.mono ?_; rintro e w4 ⟨rfl, T4, R4, X4⟩; have L4 := X4.low B3.size L3 R4; have B4 := B3.trans (X4.below B3.size L3); have c13 : Calls Try.prog 13 #[.pointer (some ⟨q, 0, none⟩), .string ⟨#[97]⟩] w4 _ := sync_rep w4 T4 q _ [97] R4 (show 2 < 1000000000 by decide) (by decide); rw [k3] at c13; clear c12)
      | (go_at_call 13; refine c13.mono ?_; rintro e w5 ⟨rfl, T5, R5, X5⟩; have L5 := X5.low B4.size L4 R5; have B5 := B4.trans (X5.below B4.size L4); have c14 := names_rep w5 T5 q _ R5 (show 3 < 100000000 by decide); rw [k4] at c14; clear c13)
      | (go_at_call 14; refine c14.mono ?_; rintro e w6 ⟨rfl, T6, R6, X6⟩; have L6 := X6.low B5.size L5 R6; have B6 := B5.trans (X6.below B5.size L5); have d12 := append_rep w6 T6 q _ [97] r a1 cap1 R6 (show 4 < 1000000000 by decide) (by decide) (HRR.out.in B6 L6) hrn (by have := HP.out; omega) (show -1000000000000 ≤ (1000 : Int) by decide); rw [k5 1000 b p r (by have := HP.out; omega), ← HP.out.2.1] at d12; clear c14)
      | (go_at_call 12; refine d12.mono ?_; rintro e w7 ⟨rfl, T7, R7, X7⟩; have L7 := X7.low B6.size L6 R7; have B7 := B6.trans (X7.below B6.size L6); have c17 := fall_rep w7 T7 q _ 0 a2 R7 (show 5 < 10000000 by decide); clear d12)
      | (go_at_call 17; refine c17.mono ?_; rintro e w8 ⟨rfl, T8, R8, X8⟩; have L8 := X8.low B7.size L7 R8; have B8 := B7.trans (X8.below B7.size L7); have c18 : Calls Try.prog 18 #[.pointer (some ⟨q, 0, none⟩), .string ⟨#[97]⟩] w8 _ := read_rep w8 T8 q _ [97] R8 (by decide); rw [(k6 1000 b p r a2).1, (k6 1000 b p r a2).2] at c18; clear c17)
      | (go_at_call 18; refine c18.mono ?_; rintro e w9 ⟨v, rfl, ⟨O9, _⟩, B9⟩; have B9 := B8.trans (B9.mono B8.size); obtain ⟨A9, c9, hv, r9, _, _, _⟩ := O9.form; subst hv; obtain ⟨L9, hL9⟩ : ∃ L, L = (p ++ r.take (min a2.toNat r.length)).length := ⟨_, rfl⟩; rw [← hL9]; have cv1 := fun n => conv_any (w := w9.drewN n) (A := A9) r9 L9 c9 hL9; clear hL9 O9 r9; have cv2 := fun n => conv_any (w := w9.drewN n) (A := a0) (HRP.out.at (fun ad e h0 => B9.block _ (HRP.out.lt h0 ad e))) len0 cap0 HP.out.1; have cv3 := fun n => conv_any (w := w9.drewN n) (A := a1) (Rd.take (HRR.out.at (fun ad e h0 => B9.block _ (HRR.out.lt h0 ad e))) len1) len1 cap1 (by rw [List.length_take]; have := HK.out; omega); have e9 : ((str (p ++ r.take (min a2.toNat r.length))).toList == (str p ++ str (r.take len1)).toList) = true := (by rw [str_app, ← HK.out.1]; simp); have hsum : ¬ 9223372036854775807 < (str p).size + (str (r.take len1)).size := (by rw [str_size, str_size, List.length_take]; have := HP.out; omega); generalize str (p ++ r.take (min a2.toNat r.length)) = t1 at *; generalize str p = t2 at *; generalize str (r.take len1) = t3 at *; clear c18)
      | go_in)
    go_quiet (fail)
    go_wp2
    go_ret
    exact ⟨rfl, ⟨B9.os, B9.tape, B9.output, B9.size, B9.block⟩⟩
  · obtain ⟨o, rfl⟩ := Int.eq_ofNat_of_zero_le c.1
    have HK : Hid (o = min (o : Int).toNat r.length ∧ o ≤ r.length) := ⟨by have := HP.out; omega, by have := HP.out; omega⟩
    have c0 : ¬ ((o : Int) < 0) := by omega
    have c1 : ¬ (len1 : Int) < (o : Int) := by omega
    have c2 : (o : Int) ≤ (cap1 : Int) := by omega
    go_enter Try.func6, Try.ntmps6
    go_wp2_with (first
      | (go_at_call 9; refine (awake_any _).mono ?_; rintro e w1 ⟨rfl, B0⟩; have c10 := new_rep w1 1000 (by omega))
      | (go_at_call 10; refine c10.mono ?_; rintro e w2 ⟨q, T1, rfl, R1, B1, L1⟩; have c11 : Calls Try.prog 11 #[.pointer (some ⟨q, 0, none⟩), .string ⟨#[97]⟩] w2 _ := create_rep w2 T1 q (M.new 1000) [97] R1 (show 0 < 10000000 by decide) (by decide); have hB2 := B0.trans (B1.mono B0.size); have L1 : ∀ k, T1 k ≠ .none → w.heap.size ≤ k := fun k hk => Nat.le_trans B0.size (L1 k hk); clear c10)
      | (go_at_call 11; refine c11.mono ?_; rintro e w3 ⟨rfl, T3, b, R3, X3, _⟩; rw [(k1 1000 b).1] at R3; have L3 := X3.low hB2.size L1 R3; have B3 := hB2.trans (X3.below hB2.size L1); have c12 := append_rep w3 T3 q _ [97] p a0 cap0 R3 (show 1 < 1000000000 by decide) (by decide) (HRP.out.in B3 L3) hpn (by have := HP.out; omega) (show -1000000000000 ≤ (1000 : Int) by decide); rw [(k2 1000 b p (by have := HP.out; omega)).1, (k2 1000 b p (by have := HP.out; omega)).2, ← HP.out.1] at c12; clear c11)
      | (go_at_call 12; refine c12.mono ?_; rintro e w4 ⟨rfl, T4, R4, X4⟩; have L4 := X4.low B3.size L3 R4; have B4 := B3.trans (X4.below B3.size L3); have c13 : Calls Try.prog 13 #[.pointer (some ⟨q, 0, none⟩), .string ⟨#[97]⟩] w4 _ := sync_rep w4 T4 q _ [97] R4 (show 2 < 1000000000 by decide) (by decide); rw [k3] at c13; clear c12)
      | (go_at_call 13; refine c13.mono ?_; rintro e w5 ⟨rfl, T5, R5, X5⟩; have L5 := X5.low B4.size L4 R5; have B5 := B4.trans (X5.below B4.size L4); have c14 := names_rep w5 T5 q _ R5 (show 3 < 100000000 by decide); rw [k4] at c14; clear c13)
      | (go_at_call 14; refine c14.mono ?_; rintro e w6 ⟨rfl, T6, R6, X6⟩; have L6 := X6.low B5.size L5 R6; have B6 := B5.trans (X6.below B5.size L5); have d12 := append_rep w6 T6 q _ [97] r a1 cap1 R6 (show 4 < 1000000000 by decide) (by decide) (HRR.out.in B6 L6) hrn (by have := HP.out; omega) (show -1000000000000 ≤ (1000 : Int) by decide); rw [k5 1000 b p r (by have := HP.out; omega), ← HP.out.2.1] at d12; clear c14)
      | (go_at_call 12; refine d12.mono ?_; rintro e w7 ⟨rfl, T7, R7, X7⟩; have L7 := X7.low B6.size L6 R7; have B7 := B6.trans (X7.below B6.size L6); have c17 := fall_rep w7 T7 q _ 0 (o : Int) R7 (show 5 < 10000000 by decide); clear d12)
      | (go_at_call 17; refine c17.mono ?_; rintro e w8 ⟨rfl, T8, R8, X8⟩; have L8 := X8.low B7.size L7 R8; have B8 := B7.trans (X8.below B7.size L7); have c18 : Calls Try.prog 18 #[.pointer (some ⟨q, 0, none⟩), .string ⟨#[97]⟩] w8 _ := read_rep w8 T8 q _ [97] R8 (by decide); rw [(k6 1000 b p r (o : Int)).1, (k6 1000 b p r (o : Int)).2] at c18; clear c17)
      | (go_at_call 18; refine c18.mono ?_; rintro e w9 ⟨v, rfl, ⟨O9, _⟩, B9⟩; have B9 := B8.trans (B9.mono B8.size); obtain ⟨A9, c9, hv, r9, _, _, _⟩ := O9.form; subst hv; obtain ⟨L9, hL9⟩ : ∃ L, L = (p ++ r.take (min (o : Int).toNat r.length)).length := ⟨_, rfl⟩; rw [← hL9]; have cv1 := fun n => conv_any (w := w9.drewN n) (A := A9) r9 L9 c9 hL9; clear hL9 O9 r9; have cv2 := fun n => conv_any (w := w9.drewN n) (A := a0) (HRP.out.at (fun ad e h0 => B9.block _ (HRP.out.lt h0 ad e))) len0 cap0 HP.out.1; have cv3 := fun n => conv_any (w := w9.drewN n) (A := a1) (Rd.take (HRR.out.at (fun ad e h0 => B9.block _ (HRR.out.lt h0 ad e))) o) o cap1 (by rw [List.length_take]; have := HK.out; omega); have e9 : ((str (p ++ r.take (min (o : Int).toNat r.length))).toList == (str p ++ str (r.take o)).toList) = true := (by rw [str_app, ← HK.out.1]; simp); have hsum : ¬ 9223372036854775807 < (str p).size + (str (r.take o)).size := (by rw [str_size, str_size, List.length_take]; have := HP.out; omega); generalize str (p ++ r.take (min (o : Int).toNat r.length)) = t1 at *; generalize str p = t2 at *; generalize str (r.take o) = t3 at *; clear c18)
      | go_in)
    go_quiet (fail)
    go_wp2
    go_ret
    exact ⟨rfl, ⟨B9.os, B9.tape, B9.output, B9.size, B9.block⟩⟩

set_option maxRecDepth 100000 in
theorem lifted (os : Os) (started : os.Started) (H : Type) (enc : TypeId × Value → H) :
    ReturnsInHanded {} Try.checked os 6 .any (Rows.shelfKeepsSpec.pre6 enc Try.prog Try.f6 Rows.shelfKeepsRow.domain false) (Rows.shelfKeepsSpec.post enc Try.prog Try.f6 false true false false) := by
  refine returnsInHanded_of_change (C := Try.checked) own started (by kernel_rfl) Try.func6
    (ChangeSpec.witness6 (enc := enc) (C := Try.checked) false ⟨#[], #[.slice none 0 0, .slice none 0 0, .int .i64 0], []⟩ 8 (by kernel_rfl) (by kernel_rfl) (by kernel_rfl) (by kernel_rfl)) ?_
  intro W base args ds gs before hval0 hW hcnd _
  have hval : ∀ (j : Nat) t v, Try.f6.params[j]? = some t → args[j]? = some v → Value.okWide Try.prog W .any base t v := hval0
  have hW' := hW
  obtain ⟨p, q, hA0, hV, rfl, hfz, hnd⟩ := hW
  have hA : DataW.TrodAll enc Try.prog W 0 (fun _ => true) true Try.f6.params.toList args.toList ds p := hA0
  rw [Try.params6] at hA hval
  obtain ⟨v0, vs0, d0, ds0, p0, q0, hargs, rfl, rfl, h0, r0⟩ := trodAll_cons hA
  obtain ⟨v1, vs1, d1, ds1, p1, q1, rfl, rfl, rfl, h1, r1⟩ := trodAll_cons r0
  obtain ⟨v2, vs2, d2, ds2, p2, q2, rfl, rfl, rfl, h2, r2⟩ := trodAll_cons r1
  obtain ⟨rfl, rfl, rfl⟩ := trodAll_nil r2
  obtain rfl : args = #[v0, v1, v2] := by cases args; simp_all
  obtain ⟨rfl, rfl⟩ := trodVars_none hV
  obtain ⟨a0, len0, cap0, rfl⟩ := okWide_slice Try.underlying22 (hval 0 22 v0 rfl rfl)
  have k0 := h0
  have lt0 : ∀ x ∈ p0, x.block < W.heap.size := by obtain ⟨m, hm⟩ := k0; exact DataW.trod_lt m _ _ _ hm
  obtain ⟨z0, w0⟩ : ∃ zs, IsRow .u8 W a0 len0 cap0 zs := by
    obtain ⟨fuel, hf⟩ := h0
    rcases open_ints Try.underlying22 Try.underlying5 (by kernel_rfl) hf with ⟨hcs, _⟩ | ⟨x, l, c, zs, hcs, _, hl, hm, hz, _, hcell, hwz⟩
    · simp [Value.cells] at hcs
      obtain ⟨rfl, rfl, rfl⟩ := hcs
      exact ⟨[], .inl ⟨rfl, rfl, rfl, rfl⟩⟩
    · simp [Value.cells] at hcs
      obtain ⟨rfl, rfl, rfl⟩ := hcs
      exact ⟨zs, .inr ⟨_, rfl, hl, hm, by simpa using hz, hcell, hwz⟩⟩
  obtain ⟨a1, len1, cap1, rfl⟩ := okWide_slice Try.underlying22 (hval 1 22 v1 rfl rfl)
  have k1 := h1
  have lt1 : ∀ x ∈ p1, x.block < W.heap.size := by obtain ⟨m, hm⟩ := k1; exact DataW.trod_lt m _ _ _ hm
  obtain ⟨z1, w1⟩ : ∃ zs, IsRow .u8 W a1 len1 cap1 zs := by
    obtain ⟨fuel, hf⟩ := h1
    rcases open_ints Try.underlying22 Try.underlying5 (by kernel_rfl) hf with ⟨hcs, _⟩ | ⟨x, l, c, zs, hcs, _, hl, hm, hz, _, hcell, hwz⟩
    · simp [Value.cells] at hcs
      obtain ⟨rfl, rfl, rfl⟩ := hcs
      exact ⟨[], .inl ⟨rfl, rfl, rfl, rfl⟩⟩
    · simp [Value.cells] at hcs
      obtain ⟨rfl, rfl, rfl⟩ := hcs
      exact ⟨zs, .inr ⟨_, rfl, hl, hm, by simpa using hz, hcell, hwz⟩⟩
  obtain ⟨a2, rfl, rfl, rfl, w2⟩ := open_int Try.underlying3 (hval 2 3 v2 rfl rfl) h2
  clear hA0 hval0
  refine (walk a0 len0 cap0 z0 a1 len1 cap1 z1 a2 W w0 w1 w2).mono fun e W' ⟨he, bel⟩ => ?_
  subst he
  exact ⟨_, rfl, _, _, _, [], _, [], hW', trodAll_mk1 (shut_bool Try.underlying4 _), (trodAll_cons_mk (Below.trod laidOut (by kernel_rfl) (of_decide_eq_true (by kernel_rfl)) k0 bel lt0) (trodAll_cons_mk (Below.trod laidOut (by kernel_rfl) (of_decide_eq_true (by kernel_rfl)) k1 bel lt1) (trodAll_cons_mk (shut_int Try.underlying3 w2) trodAll_mk0))), rfl, bel.frame _, fun h => by cases h⟩

theorem over : Rows.shelfKeepsRow.holds Try.pinned (OpenSpec.ofChange Rows.shelfKeepsSpec) :=
  OpenClaim.holds_of_wide 6 Try.f6 rfl rfl rfl rfl rfl rfl rfl ⟨rfl, rfl, rfl, rfl, rfl⟩ rfl rfl rfl rfl rfl (by kernel_rfl) Try.func6 (by kernel_rfl)
    (of_decide_eq_true (by kernel_rfl)) (by unfold Func.isWrapper; first | (rw [if_pos (by decide +kernel)]; kernel_rfl) | (rw [if_neg (by decide +kernel)]; exact ⟨rfl, rfl⟩))
    (fun os started H enc _ => lifted os started H enc)

theorem proved : Rows.ShelfKeepsSaid := over
#print axioms proved
end Go.Proofs.Ytkalgonkaoiapaa.shelfKeeps
