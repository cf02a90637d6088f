/-
  'For every input the Go function milestonelaw15.SourcePlays returns true, and each argument reads behind the call as it read before.'
  Conditions: none but the row's own (linux/amd64, sizes of what is read within the address space).
-/
import Derived.Test.YtldaggcopbnehaaRows
import Derived.WalkKit
import Derived.ProofKit
import Derived.OpenShut
import Derived.ShutString
import Derived.ChangeOld
import Derived.Below
import Derived.Lib.SmallJoins
import Derived.Lib.Hide
import Derived.Test.YtldaggcopbnehaaSi
namespace Go.Proofs.Ytldaggcopbnehaa.sourcePlays
open Pre
open Ser
open Src
open Go.Sort
open Go.ChangeShapes Go.WideShapes Go.ChangeAt Go.RowKit
open Go.ChangeMaps (open_string shut_string)
set_option linter.unusedVariables false
set_option maxRecDepth 100000
set_option maxHeartbeats 8000000

theorem own : ownKnob Try.prog.godebug = none := by kernel_rfl
theorem laidOut : laidOutB Try.prog = true := by kernel_rfl

theorem walk (a0 : Option Addr) (len0 cap0 : Nat) (z0 : List ActD) (a1 : Option Addr) (len1 cap1 : Nat) (z1 : List ActD) (w : World) (w0 : IsActs w a0 len0 cap0 z0) (w1 : IsActs w a1 len1 cap1 z1) :
    Calls Try.prog 3 #[.slice a0 len0 cap0, .slice a1 len1 cap1] w fun e w' => e = .returned (.bool true) ∧ Below w.heap.size w w' := by
  by_cases h60 : 60 < len0
  · have hd : decide ((60 : Int) < (len0 : Int)) = true := by simp; omega
    clear w0 w1
    go_enter Try.func3, Try.ntmps3
    go_wp2_with fail
    refine (awake_any _).mono ?_
    rintro e wa ⟨rfl, h1⟩
    go_wp2_with fail
    refine (awake_any _).mono ?_
    rintro e wb ⟨rfl, h2⟩
    go_wp2_with fail
    go_ret
    exact ⟨rfl, h1.trans (h2.mono h1.size)⟩
  have hd : decide ((60 : Int) < (len0 : Int)) = false := by simp; omega
  by_cases h30 : 30 < len1
  · have hd2 : decide ((30 : Int) < (len1 : Int)) = true := by simp; omega
    clear w0 w1
    go_enter Try.func3, Try.ntmps3
    go_wp2_with fail
    refine (awake_any _).mono ?_
    rintro e wa ⟨rfl, h1⟩
    go_wp2_with fail
    refine (awake_any _).mono ?_
    rintro e wb ⟨rfl, h2⟩
    go_wp2_with fail
    go_ret
    exact ⟨rfl, h1.trans (h2.mono h1.size)⟩
  have hd2 : decide ((30 : Int) < (len1 : Int)) = false := by simp; omega
  have HZ := Lib.hid w0
  have HY := Lib.hid w1
  have h60' : len0 ≤ 60 := by omega
  have h30' : len1 ≤ 30 := by omega
  clear w0 w1 h60 h30
  go_enter Try.func3, Try.ntmps3
  go_wp2_with fail
  refine (awake_any _).mono ?_
  rintro e wa ⟨rfl, h1⟩
  have HA := Lib.hid h1
  clear h1
  go_upto_region 8 with (go_at_call 7; (with_reducible refine (New_any _).mono ?_); rintro e wb ⟨rfl, S1, B1⟩; have H1 := Lib.hid (And.intro (S1.mono HA.out.size) (HA.out.trans (B1.mono HA.out.size))); clear S1 B1)
  have HP : Hid (PX w ((wb.alloc (.cells #[.int .u16 0, .int .u16 0, .int .u16 0, .int .u16 0, .int .u16 0, .int .u16 0, .int .u16 0, .int .u16 0, .int .u16 0, .int .u16 0, .int .u16 0, .int .u16 0, .int .u16 0, .int .u16 0, .int .u16 0, .int .u16 0, .int .u16 0, .int .u16 0, .int .u16 0, .int .u16 0, .int .u16 0, .int .u16 0, .int .u16 0, .int .u16 0, .int .u16 0, .int .u16 0, .int .u16 0, .int .u16 0, .int .u16 0, .int .u16 0, .int .u16 0, .int .u16 0, .int .u16 0, .int .u16 0, .int .u16 0, .int .u16 0] 29)).alloc (.cells #[.bool false, .bool false, .bool false, .bool false, .bool false, .bool false, .bool false, .bool false, .bool false, .bool false, .bool false, .bool false, .bool false, .bool false, .bool false, .bool false, .bool false, .bool false] 30)) wa.heap.size wb.heap.size (wb.heap.size + 1) (fun _ _ => none) 0 (fun _ => (0, 0)) (fun _ => false)) := by
    have B2 := ((Below.refl wb.heap.size wb).alloc (Nat.le_refl _) (.cells #[.int .u16 0, .int .u16 0, .int .u16 0, .int .u16 0, .int .u16 0, .int .u16 0, .int .u16 0, .int .u16 0, .int .u16 0, .int .u16 0, .int .u16 0, .int .u16 0, .int .u16 0, .int .u16 0, .int .u16 0, .int .u16 0, .int .u16 0, .int .u16 0, .int .u16 0, .int .u16 0, .int .u16 0, .int .u16 0, .int .u16 0, .int .u16 0, .int .u16 0, .int .u16 0, .int .u16 0, .int .u16 0, .int .u16 0, .int .u16 0, .int .u16 0, .int .u16 0, .int .u16 0, .int .u16 0, .int .u16 0, .int .u16 0] 29)).alloc (by simp) (.cells #[.bool false, .bool false, .bool false, .bool false, .bool false, .bool false, .bool false, .bool false, .bool false, .bool false, .bool false, .bool false, .bool false, .bool false, .bool false, .bool false, .bool false, .bool false] 30)
    have eM : (#[.int .u16 0, .int .u16 0, .int .u16 0, .int .u16 0, .int .u16 0, .int .u16 0, .int .u16 0, .int .u16 0, .int .u16 0, .int .u16 0, .int .u16 0, .int .u16 0, .int .u16 0, .int .u16 0, .int .u16 0, .int .u16 0, .int .u16 0, .int .u16 0, .int .u16 0, .int .u16 0, .int .u16 0, .int .u16 0, .int .u16 0, .int .u16 0, .int .u16 0, .int .u16 0, .int .u16 0, .int .u16 0, .int .u16 0, .int .u16 0, .int .u16 0, .int .u16 0, .int .u16 0, .int .u16 0, .int .u16 0, .int .u16 0] : Array Value) = mC (fun _ => (0, 0)) := by kernel_rfl
    have eH : (#[.bool false, .bool false, .bool false, .bool false, .bool false, .bool false, .bool false, .bool false, .bool false, .bool false, .bool false, .bool false, .bool false, .bool false, .bool false, .bool false, .bool false, .bool false] : Array Value) = hC (fun _ => false) := by kernel_rfl
    have r0 := (heap_alloc_old _ (.cells #[.bool false, .bool false, .bool false, .bool false, .bool false, .bool false, .bool false, .bool false, .bool false, .bool false, .bool false, .bool false, .bool false, .bool false, .bool false, .bool false, .bool false, .bool false] 30) (by simp)).trans (heap_alloc_new wb (.cells #[.int .u16 0, .int .u16 0, .int .u16 0, .int .u16 0, .int .u16 0, .int .u16 0, .int .u16 0, .int .u16 0, .int .u16 0, .int .u16 0, .int .u16 0, .int .u16 0, .int .u16 0, .int .u16 0, .int .u16 0, .int .u16 0, .int .u16 0, .int .u16 0, .int .u16 0, .int .u16 0, .int .u16 0, .int .u16 0, .int .u16 0, .int .u16 0, .int .u16 0, .int .u16 0, .int .u16 0, .int .u16 0, .int .u16 0, .int .u16 0, .int .u16 0, .int .u16 0, .int .u16 0, .int .u16 0, .int .u16 0, .int .u16 0] 29))
    have r1 := heap_new1 wb (.cells #[.int .u16 0, .int .u16 0, .int .u16 0, .int .u16 0, .int .u16 0, .int .u16 0, .int .u16 0, .int .u16 0, .int .u16 0, .int .u16 0, .int .u16 0, .int .u16 0, .int .u16 0, .int .u16 0, .int .u16 0, .int .u16 0, .int .u16 0, .int .u16 0, .int .u16 0, .int .u16 0, .int .u16 0, .int .u16 0, .int .u16 0, .int .u16 0, .int .u16 0, .int .u16 0, .int .u16 0, .int .u16 0, .int .u16 0, .int .u16 0, .int .u16 0, .int .u16 0, .int .u16 0, .int .u16 0, .int .u16 0, .int .u16 0] 29) (.cells #[.bool false, .bool false, .bool false, .bool false, .bool false, .bool false, .bool false, .bool false, .bool false, .bool false, .bool false, .bool false, .bool false, .bool false, .bool false, .bool false, .bool false, .bool false] 30)
    refine Lib.hid ⟨H1.out.2.trans (B2.mono H1.out.2.size), H1.out.1.below B2, r0.trans (by rw [eM]), r1.trans (by rw [eH]), H1.out.2.size, Nat.le_succ_of_le H1.out.2.size, fun _ => ⟨by decide, by decide⟩⟩
  clear H1 HA
  generalize (wb.alloc (.cells #[.int .u16 0, .int .u16 0, .int .u16 0, .int .u16 0, .int .u16 0, .int .u16 0, .int .u16 0, .int .u16 0, .int .u16 0, .int .u16 0, .int .u16 0, .int .u16 0, .int .u16 0, .int .u16 0, .int .u16 0, .int .u16 0, .int .u16 0, .int .u16 0, .int .u16 0, .int .u16 0, .int .u16 0, .int .u16 0, .int .u16 0, .int .u16 0, .int .u16 0, .int .u16 0, .int .u16 0, .int .u16 0, .int .u16 0, .int .u16 0, .int .u16 0, .int .u16 0, .int .u16 0, .int .u16 0, .int .u16 0, .int .u16 0] 29)).alloc (.cells #[.bool false, .bool false, .bool false, .bool false, .bool false, .bool false, .bool false, .bool false, .bool false, .bool false, .bool false, .bool false, .bool false, .bool false, .bool false, .bool false, .bool false, .bool false] 30) = w2 at *
  generalize wb.heap.size = bm at *
  obtain ⟨bh, hbh⟩ : ∃ bh, bh = bm + 1 := ⟨_, rfl⟩
  rw [← hbh] at HP ⊢
  clear hbh
  generalize wa.heap.size = q at *
  have HAG : Hid (Ag (fun _ _ => none) (fun _ => (0, 0)) (fun _ => false)) := Lib.hid fun k _ _ => rfl
  go_loopw [8, 9] (fun v8 v9 wr => ∃ (i c : Nat) (f : Mk) (g : Nat → Nat × Nat) (h : Nat → Bool), i ≤ len0 ∧ v8 = .int .i64 c ∧ v9 = .int .i64 i ∧ c ≤ i ∧ Hid (PX w wr q bm bh f c g h ∧ Ag f g h)) (fun _ v9 _ => len0 - (intOf v9).toNat)
  case atStart => exact ⟨0, 0, _, _, _, Nat.zero_le _, rfl, rfl, Nat.le_refl _, ⟨HP.out, HAG.out⟩⟩
  case round =>
    obtain ⟨i, c, f, g, h, hi, rfl, rfl, hci, HR⟩ := hrel
    clear HP HAG
    rcases Nat.lt_or_ge i len0 with hlt | hge
    · have hlt' : (i : Int) < len0 := by omega
      obtain ⟨d, b, o, rfl, hA⟩ := HZ.out.at' HR.out.1.b i hlt
      obtain ⟨D0, D1, D2⟩ := d
      obtain ⟨k0, k1, k2, hD0, hD1, hD2⟩ := hA
      simp only at k0 k1 k2 hD0 hD1 hD2
      have hbl : b < wr.heap.size := block_lt_of_cell k0
      have HAC := Lib.hid (And.intro hbl (And.intro k0 (And.intro k1 k2)))
      obtain ⟨a, ha⟩ : ∃ a, a = pA D0 := ⟨_, rfl⟩
      obtain ⟨n, hn⟩ : ∃ n, n = pN D0 := ⟨_, rfl⟩
      obtain ⟨k, hk⟩ : ∃ k, k = fk D0 := ⟨_, rfl⟩
      obtain ⟨Y, hY⟩ : ∃ Y, Y = (D1 % 9 + 65532) % 65536 := ⟨_, rfl⟩
      have HK : Hid (k < 18 ∧ pA k = a ∧ pN k = n ∧ fk k = k ∧ a < 4294967296 ∧ n < 256 ∧ Pre.right a n = true ∧ Y < 65536) := Lib.hid ⟨hk ▸ fk_lt D0, by rw [hk, ha, fk_A], by rw [hk, hn, fk_N], by rw [hk, fk_fk], by rw [ha]; exact pA_lt D0, by rw [hn]; have := pN_le D0; omega, by rw [ha, hn]; exact p_right D0, by rw [hY]; omega⟩
      have CD : Hid (∀ W, Calls Try.prog 9 #[.int .u8 D0] W fun e w' => e = .returned (.agg #[.int .u32 (a : Int), .int .u8 (n : Int)]) ∧ Below W.heap.size W w') := Lib.hid fun W => by rw [ha, hn]; exact prefix_n D0 hD0 W
      have CF : Hid (∀ W, Calls Try.prog 8 #[.agg #[.int .u32 (a : Int), .int .u8 (n : Int)]] W fun e w' => e = .returned (.int .i64 (k : Int)) ∧ Below W.heap.size W w') := Lib.hid fun W => by rw [ha, hn, hk]; exact first_n D0 W
      have CK : Hid (∀ W, Calls Try.prog 9 #[.int .u8 k] W fun e w' => e = .returned (.agg #[.int .u32 (a : Int), .int .u8 (n : Int)]) ∧ Below W.heap.size W w') := Lib.hid fun W => by
        rw [← HK.out.2.1, ← HK.out.2.2.1]; exact prefix_n k (by have := HK.out.1; omega) W
      have CM : Hid (∀ W, Calls Try.prog 10 #[.agg #[.int .u8 (D0 : Int), .int .u8 (D1 : Int), .int .u16 (D2 : Int)]] W fun e w' => e = .returned (.agg #[.int .u16 (Y : Int), .int .u16 (D2 : Int)]) ∧ Below W.heap.size W w') := Lib.hid fun W => hY ▸ mark_any D0 D1 D2 hD1 W
      clear ha hn hk hY
      go_upto_region 12 with (first
        | (go_at_call 9; go_loud ((with_reducible refine (CD.out _).mono ?_); rintro e w3 ⟨rfl, B3⟩; have H3 := Lib.hid B3; clear B3))
        | (go_at_call 8; (with_reducible refine (CF.out _).mono ?_); rintro e w4 ⟨rfl, B4⟩; have H4 := Lib.hid (H3.out.trans (B4.mono H3.out.size)); clear B4 k0 k1 k2; have k0 := (H4.out.cell (p := ⟨b, o + i * 3, none⟩) HAC.out.1).trans HAC.out.2.1; have k1 := (H4.out.cell (p := ⟨b, o + i * 3 + 1, none⟩) HAC.out.1).trans HAC.out.2.2.1; have k2 := (H4.out.cell (p := ⟨b, o + i * 3 + 2, none⟩) HAC.out.1).trans HAC.out.2.2.2)
        | (go_at_call 10; (with_reducible refine (CM.out _).mono ?_); rintro e w5 ⟨rfl, B5⟩; have H5 := Lib.hid (H4.out.trans (B5.mono H4.out.size)); clear B5 k0 k1 k2))
      have HW := Lib.hid (And.intro ((HR.out.1.step H5.out).step ((Below.refl _ _).alloc (Nat.le_refl _) (.cells #[.int .u16 (Y : Int), .int .u16 (D2 : Int)] 28))) (heap_alloc_new w5 (.cells #[.int .u16 (Y : Int), .int .u16 (D2 : Int)] 28)))
      obtain ⟨e0, f', c', CL, HCA⟩ : ∃ e0 f' c', Hid (∀ W, PX w W q bm bh f c g h → Calls Try.prog 11 #[.pointer (some ⟨q, 0, none⟩), .agg #[.int .u32 (a : Int), .int .u8 (n : Int)], .agg #[.int .u16 (Y : Int), .int .u16 (D2 : Int)]] W fun e w' => e = .returned (.int .i64 e0) ∧ PX w w' q bm bh f' c' g h ∧ K w.heap.size W w') ∧ Hid ((D2 = 65535 ∧ e0 = 1 ∧ f' = f ∧ c' = c) ∨ (D2 ≠ 65535 ∧ e0 = 0 ∧ f' = f.put a n (f.best a n (Y, D2)) ∧ c' = if (f a n).isSome then c else c + 1)) := by
        by_cases h5 : D2 = 65535
        · subst h5
          exact ⟨1, f, c, Lib.hid fun W hW => (Lower_end W q a n HK.out.2.2.2.2.1 HK.out.2.2.2.2.2.1 HK.out.2.2.2.2.2.2.1 Y).mono fun e w' ⟨h1, h2⟩ => ⟨h1, hW.step h2, K.of h2 hW.b.size⟩, Or.inl ⟨rfl, rfl, rfl, rfl⟩⟩
        · exact ⟨0, _, _, Lib.hid fun W hW => (Lower_any W q f c hW.s hW.b.size a n HK.out.2.2.2.2.1 HK.out.2.2.2.2.2.1 HK.out.2.2.2.2.2.2.1 Y D2 (by omega) (by omega)).mono fun e w' ⟨h1, h2, h3⟩ => ⟨h1, hW.src h3 h2, h3⟩, Or.inr ⟨h5, rfl, rfl, rfl⟩⟩
      clear H5 H4 H3 CD CF CM HAC hbl
      generalize w5.alloc (.cells #[.int .u16 (Y : Int), .int .u16 (D2 : Int)] 28) = W1 at *
      generalize w5.heap.size = z at *
      have HD := Lib.hid (HW.out.1.step ((Below.refl _ _).drew))
      have hwk : IntKind.u8.wrap (k : Int) = k := by rw [IntKind.wrap_u8]; have := HK.out.1; omega
      refine wp_region_noPanic ?_
      refine wp_region_held_drew (S := fun x : World => x.heap[z]? = some (.cells #[.int .u16 (Y : Int), .int .u16 (D2 : Int)] 28 (0, 0))) (by kernel_rfl) HW.out.2 (fun hHeld => ?_)
      generalize W1.drew = wd at *
      refine wpAnyH_take (i := 0) (oi := { dst := some 53, op := Op.move (Operand.tmp 5), type := 24, pos := "law.go:41", after := #[], guard := none }) (v := .pointer (some ⟨q, 0, none⟩)) rfl (by kernel_rfl) (by kernel_rfl) (by kernel_rfl) (fun _ _ _ h => h) (Or.inl ⟨by rfl, fun w hSw => by go_simp⟩) (by assumption) ?_
      try simp only [Act.put, List.setIfInBounds_toArray, List.set_cons_zero, List.set_cons_succ]
      refine wpAnyH_take (i := 1) (oi := { dst := some 54, op := Op.move (Operand.tmp 10), type := 3, pos := "law.go:41", after := #[], guard := none }) (v := .int .i64 (k : Int)) rfl (by kernel_rfl) (by kernel_rfl) (by kernel_rfl) (fun _ _ _ h => h) (Or.inl ⟨by rfl, fun w hSw => by go_simp⟩) (by assumption) ?_
      try simp only [Act.put, List.setIfInBounds_toArray, List.set_cons_zero, List.set_cons_succ]
      refine wpAnyH_take (i := 2) (oi := { dst := some 55, op := Op.convert 3 5 (Operand.tmp 54), type := 5, pos := "law.go:41", after := #[{ on := 1, ground := Ground.data }], guard := none }) (v := .int .u8 (k : Int)) rfl (by kernel_rfl) (by kernel_rfl) (by kernel_rfl) (fun _ _ _ h => h) (Or.inl ⟨by rfl, fun w hSw => by go_simp⟩) (by assumption) ?_
      try simp only [Act.put, List.setIfInBounds_toArray, List.set_cons_zero, List.set_cons_succ]
      refine wpAnyH_take (i := 4) (oi := { dst := some 57, op := Op.load 28 (Operand.tmp 11), type := 28, pos := "law.go:41", after := #[], guard := none }) (v := .agg #[.int .u16 (Y : Int), .int .u16 (D2 : Int)]) rfl (by kernel_rfl) (by kernel_rfl) (by kernel_rfl) (fun _ _ _ h => h) (Or.inl ⟨by rfl, fun w hSw => by obtain ⟨u0, u1, -⟩ := row2 hSw; go_simp⟩) (by assumption) ?_
      try simp only [Act.put, List.setIfInBounds_toArray, List.set_cons_zero, List.set_cons_succ]
      refine wpAnyH_ready (rs := [3]) (by kernel_rfl) (by simp) ?_
      refine AllReadyH.cons (o := { dst := some 56, op := Op.call { callee := Callee.value (Operand.func 9), args := #[Operand.tmp 55], argTypes := #[5] }, type := 34, pos := "law.go:41", after := #[{ on := 2, ground := Ground.data }], guard := none }) rfl (fun K hK => ?_) AllReadyH.nil
      go_simp
      with_reducible refine (CK.out _).mono ?_
      rintro e w6 ⟨rfl, B6⟩
      refine hK.out _ _ ((B6.block _ (Array.getElem?_eq_some_iff.1 hHeld).1).trans hHeld) (fun hHeld2 => ?_)
      clear hK K
      have HD2 := Lib.hid (HD.out.step B6)
      clear hHeld B6
      have hHeld := hHeld2
      clear hHeld2
      try simp only [Act.put, List.setIfInBounds_toArray, List.set_cons_zero, List.set_cons_succ]
      refine wpAnyH_ready (rs := [5]) (by kernel_rfl) (by simp) ?_
      refine AllReadyH.cons (o := { dst := some 58, op := Op.call { callee := Callee.value (Operand.func 11), args := #[Operand.tmp 53, Operand.tmp 56, Operand.tmp 57], argTypes := #[24, 34, 28] }, type := 39, pos := "law.go:41", after := #[{ on := 0, ground := Ground.data }, { on := 3, ground := Ground.data }, { on := 4, ground := Ground.data }, { on := 3, ground := Ground.chain }], guard := none }) rfl (fun K hK => ?_) AllReadyH.nil
      go_simp
      with_reducible refine (CL.out _ HD2.out).mono ?_
      rintro e w7 ⟨rfl, PX7, K7⟩
      refine hK.out _ _ (K7.cells _ _ _ _ hHeld (by decide)) (fun hHeld2 => ?_)
      clear hK K hHeld
      have hHeld := hHeld2
      have HXX := Lib.hid PX7
      clear PX7 K7 hHeld2
      try simp only [Act.put, List.setIfInBounds_toArray, List.set_cons_zero, List.set_cons_succ]
      refine wpAnyH_take (i := 6) (oi := { dst := some 12, op := Op.assign (Operand.tmp 58), type := 39, pos := "law.go:41", after := #[{ on := 5, ground := Ground.data }, { on := 5, ground := Ground.chain }, { on := 0, ground := Ground.phase }, { on := 1, ground := Ground.phase }, { on := 2, ground := Ground.phase }, { on := 3, ground := Ground.phase }, { on := 4, ground := Ground.phase }, { on := 5, ground := Ground.phase }], guard := none }) (v := .int .i64 e0) rfl (by kernel_rfl) (by kernel_rfl) (by kernel_rfl) (fun _ _ _ h => h) (Or.inl ⟨by rfl, fun w hSw => by go_simp⟩) (by assumption) ?_
      try simp only [Act.put, List.setIfInBounds_toArray, List.set_cons_zero, List.set_cons_succ]
      refine wpAnyH_done (by kernel_rfl) ?_ _
      try unfold NoPanic
      have HX := Lib.hid (And.intro HXX.out hHeld)
      clear hHeld HXX HW CL CK
      obtain ⟨p0, p1, pf⟩ := row2 HX.out.2
      have hz6 := (Array.getElem?_eq_some_iff.1 HX.out.2).1
      rcases HCA.out with ⟨h5, rfl, rfl, rfl⟩ | ⟨h5, rfl, hf', hc'⟩
      · have e5 : ((D2 : Int) == 65535) = true := by simp; omega
        go_wp2
        go_roundw
        case rel => exact ⟨i + 1, c', f', g, h, hlt, rfl, by go_num, by omega, ⟨HX.out.1, HR.out.2⟩⟩
        case measure => simp [intOf]; omega
      · have e5 : ((D2 : Int) == 65535) = false := by simp; omega
        obtain ⟨q0, q1, q2, q3, q4⟩ := HX.out.1.at_ k HK.out.1
        have hk18 := HK.out.1
        have hne := HX.out.1.ne
        have hne2 := hne.symm
        have hagk := HR.out.2 k HK.out.1 HK.out.2.2.2.1
        rw [HK.out.2.1, HK.out.2.2.1] at hagk
        cases hhk : h k with
        | true =>
          rw [hhk] at q2 hagk
          have HS := Lib.hid (HX.out.1.setH k HK.out.1 true)
          have HZ8 := Lib.hid ((Below.heap_setCell w7 ⟨bh, k, none⟩ (.bool true) z (fun e => by have := HX.out.2; rw [show z = bh from e, HX.out.1.rh] at this; injection this with this; injection this with _ e2 _; exact absurd e2 (by decide))).trans HX.out.2)
          obtain ⟨s1, hs1⟩ : ∃ s1, s1 = (g k).1 := ⟨_, rfl⟩
          obtain ⟨s2, hs2⟩ : ∃ s2, s2 = (g k).2 := ⟨_, rfl⟩
          obtain ⟨v1, v2, hv⟩ : ∃ v1 v2, (v1, v2) = f.best a n (Y, D2) := ⟨_, _, rfl⟩
          have hbv : Ser.best (s1 : Int) (s2 : Int) (Y : Int) (D2 : Int) = .agg #[.int .u16 (v1 : Int), .int .u16 (v2 : Int)] := by
            unfold Ser.best
            unfold Mk.best at hv
            rw [hagk] at hv
            simp only [if_true] at hv
            rw [hs1, hs2]
            split at hv
            · rename_i hnr; rw [if_pos hnr]; injection hv with e1 e2; rw [e1, e2]
            · rename_i hnr; rw [if_neg hnr]; rw [← hv]
          have hvb : v1 < 65536 ∧ v2 < 65536 := by
            unfold Mk.best at hv
            rw [hagk] at hv
            simp only [if_true] at hv
            split at hv
            · injection hv with e1 e2; have := HK.out.2.2.2.2.2.2.2; omega
            · have := HX.out.1.bd k; rw [← hv] at this; exact this
          have hc2 : c' = c := by rw [hc', hagk]; rfl
          have HFIN := Lib.hid (And.intro (show f' = f.put (pA k) (pN k) (v1, v2) by rw [hf', hv, HK.out.2.1, HK.out.2.2.1]) (And.intro hc2 (And.intro hs1 (And.intro hs2 hvb))))
          have CB : Hid (∀ W, Calls Try.prog 12 #[.agg #[.int .u16 (s1 : Int), .int .u16 (s2 : Int)], .agg #[.int .u16 (Y : Int), .int .u16 (D2 : Int)]] W fun e w' => e = .returned (.agg #[.int .u16 (v1 : Int), .int .u16 (v2 : Int)]) ∧ Below W.heap.size W w') := Lib.hid fun W => by
            have h1 := HX.out.1.bd k
            have h2 := HK.out.2.2.2.2.2.2.2
            rw [← hs1, ← hs2] at h1
            rw [← hbv]; exact rbest_any _ _ _ _ (by omega) (by omega) W
          clear hs1 hs2 hv hbv hvb hc2 hf' hc' hagk hhk
          go_upto_region 22 with (fail)
          generalize w7.setCell ⟨bh, k, none⟩ (.bool true) = w8 at *
          have HD8 := Lib.hid (HS.out.step ((Below.refl _ _).drew))
          refine wp_region_noPanic ?_
          refine wp_region_held_drew (S := fun x : World => x.heap[z]? = some (.cells #[.int .u16 (Y : Int), .int .u16 (D2 : Int)] 28 (0, 0))) (by kernel_rfl) HZ8.out (fun hHeld => ?_)
          generalize w8.drew = wd8 at *
          clear p0 p1 pf q0 q1 q2 q3 q4
          refine wpAnyH_take (i := 0) (oi := { dst := some 77, op := Op.move (Operand.tmp 10), type := 3, pos := "law.go:56", after := #[], guard := none }) (v := .int .i64 (k : Int)) rfl (by kernel_rfl) (by kernel_rfl) (by kernel_rfl) (fun _ _ _ h => h) (Or.inl ⟨by rfl, fun w hSw => by go_simp⟩) (by assumption) ?_
          try simp only [Act.put, List.setIfInBounds_toArray, List.set_cons_zero, List.set_cons_succ]
          refine wpAnyH_take (i := 1) (oi := { dst := some 78, op := Op.move (Operand.tmp 10), type := 3, pos := "law.go:56", after := #[], guard := none }) (v := .int .i64 (k : Int)) rfl (by kernel_rfl) (by kernel_rfl) (by kernel_rfl) (fun _ _ _ h => h) (Or.inl ⟨by rfl, fun w hSw => by go_simp⟩) (by assumption) ?_
          try simp only [Act.put, List.setIfInBounds_toArray, List.set_cons_zero, List.set_cons_succ]
          refine wpAnyH_take (i := 2) (oi := { dst := some 79, op := Op.indexAddr 29 (Operand.tmp 6) (Operand.tmp 78), type := 0, pos := "law.go:56", after := #[{ on := 1, ground := Ground.data }], guard := none }) (v := .pointer (some ⟨bm, k * 2, none⟩)) rfl (by kernel_rfl) (by kernel_rfl) (by kernel_rfl) (fun _ _ _ h => h) (Or.inl ⟨by rfl, fun w hSw => by have hk18i : ¬ (18 : Int) ≤ (k : Int) := Int.not_le.2 (Int.ofNat_lt.2 HK.out.1); go_simp⟩) (by assumption) ?_
          try simp only [Act.put, List.setIfInBounds_toArray, List.set_cons_zero, List.set_cons_succ]
          refine wpAnyH_take (i := 4) (oi := { dst := some 81, op := Op.load 28 (Operand.tmp 11), type := 28, pos := "law.go:56", after := #[], guard := none }) (v := .agg #[.int .u16 (Y : Int), .int .u16 (D2 : Int)]) rfl (by kernel_rfl) (by kernel_rfl) (by kernel_rfl) (fun _ _ _ h => h) (Or.inl ⟨by rfl, fun w hSw => by obtain ⟨u0, u1, -⟩ := row2 hSw; go_simp⟩) (by assumption) ?_
          try simp only [Act.put, List.setIfInBounds_toArray, List.set_cons_zero, List.set_cons_succ]
          obtain ⟨q0, q1, q2, q3, q4⟩ := HD8.out.at_ k HK.out.1
          rw [← HFIN.out.2.2.1] at q0
          rw [← HFIN.out.2.2.2.1] at q1
          refine wpAnyH_ready (rs := [3]) (by kernel_rfl) (by simp) ?_
          refine AllReadyH.cons (o := { dst := some 80, op := Op.load 28 (Operand.tmp 79), type := 28, pos := "law.go:56", after := #[{ on := 2, ground := Ground.data }], guard := none }) rfl (fun K hK => ?_) AllReadyH.nil
          go_simp
          refine hK.out _ _ hHeld (fun hHeld => ?_)
          clear hK K
          try simp only [Act.put, List.setIfInBounds_toArray, List.set_cons_zero, List.set_cons_succ]
          refine wpAnyH_ready (rs := [5]) (by kernel_rfl) (by simp) ?_
          refine AllReadyH.cons (o := { dst := some 82, op := Op.call { callee := Callee.value (Operand.func 12), args := #[Operand.tmp 80, Operand.tmp 81], argTypes := #[28, 28] }, type := 28, pos := "law.go:56", after := #[{ on := 3, ground := Ground.data }, { on := 4, ground := Ground.data }], guard := none }) rfl (fun K hK => ?_) AllReadyH.nil
          go_simp
          with_reducible refine (CB.out _).mono ?_
          rintro e w9 ⟨rfl, B9⟩
          refine hK.out _ _ ((B9.block _ (Array.getElem?_eq_some_iff.1 hHeld).1).trans hHeld) (fun hHeld2 => ?_)
          clear hK K
          have H9 := Lib.hid (HD8.out.step B9)
          clear hHeld B9 q0 q1 q2 q3 q4
          have hHeld := hHeld2
          clear hHeld2
          try simp only [Act.put, List.setIfInBounds_toArray, List.set_cons_zero, List.set_cons_succ]
          refine wpAnyH_take (i := 6) (oi := { dst := some 83, op := Op.indexAddr 29 (Operand.tmp 6) (Operand.tmp 77), type := 0, pos := "law.go:56", after := #[{ on := 0, ground := Ground.data }, { on := 0, ground := Ground.phase }, { on := 1, ground := Ground.phase }, { on := 2, ground := Ground.phase }, { on := 3, ground := Ground.phase }, { on := 4, ground := Ground.phase }, { on := 5, ground := Ground.phase }], guard := none }) (v := .pointer (some ⟨bm, k * 2, none⟩)) rfl (by kernel_rfl) (by kernel_rfl) (by kernel_rfl) (fun _ _ _ h => h) (Or.inl ⟨by rfl, fun w hSw => by have hk18i : ¬ (18 : Int) ≤ (k : Int) := Int.not_le.2 (Int.ofNat_lt.2 HK.out.1); go_simp⟩) (by assumption) ?_
          try simp only [Act.put, List.setIfInBounds_toArray, List.set_cons_zero, List.set_cons_succ]
          obtain ⟨q0, q1, q2, q3, q4⟩ := H9.out.at_ k HK.out.1
          refine wpAnyH_ready (rs := [7]) (by kernel_rfl) (by simp) ?_
          refine AllReadyH.cons (o := { dst := none, op := Op.store 28 (Operand.tmp 83) (Operand.tmp 82), type := 0, pos := "law.go:56", after := #[{ on := 6, ground := Ground.data }, { on := 5, ground := Ground.data }, { on := 5, ground := Ground.chain }, { on := 0, ground := Ground.phase }, { on := 1, ground := Ground.phase }, { on := 2, ground := Ground.phase }, { on := 3, ground := Ground.phase }, { on := 4, ground := Ground.phase }, { on := 5, ground := Ground.phase }], guard := none }) rfl (fun K hK => ?_) AllReadyH.nil
          go_simp
          have hbm9 : z ≠ bm := fun e => by have := hHeld; rw [e, H9.out.rm] at this; injection this with this; injection this with _ e2 _; exact absurd e2 (by decide)
          refine hK.out _ _ (((Below.heap_setCell _ ⟨bm, k * 2 + 1, none⟩ (.int .u16 (v2 : Int)) z hbm9).trans (Below.heap_setCell w9 ⟨bm, k * 2, none⟩ (.int .u16 (v1 : Int)) z hbm9)).trans hHeld) (fun hHeld2 => ?_)
          clear hK K hHeld
          have hHeld := hHeld2
          clear hHeld2 q0 q1 q2 q3 q4 hbm9
          try simp only [Act.put, List.setIfInBounds_toArray, List.set_cons_zero, List.set_cons_succ]
          refine wpAnyH_done (by kernel_rfl) ?_ _
          try unfold NoPanic
          have HPX := Lib.hid (H9.out.setM k HK.out.1 v1 v2 HFIN.out.2.2.2.2.1 HFIN.out.2.2.2.2.2)
          clear hHeld
          generalize (w9.setCell ⟨bm, k * 2, none⟩ (.int .u16 (v1 : Int))).setCell ⟨bm, k * 2 + 1, none⟩ (.int .u16 (v2 : Int)) = w10 at *
          go_wp2
          go_roundw
          case rel => exact ⟨i + 1, c', f', _, _, hlt, by rw [HFIN.out.2.1], by go_num, by have := HFIN.out.2.1; omega, ⟨HPX.out, by rw [HFIN.out.1]; exact HR.out.2.put k HK.out.1 HK.out.2.2.2.1 (v1, v2)⟩⟩
          case measure => simp [intOf]; omega
        | false =>
          rw [hhk] at q2 hagk
          have hbm : z ≠ bm := fun e => by have := HX.out.2; rw [e, HX.out.1.rm] at this; injection this with this; injection this with _ e2 _; exact absurd e2 (by decide)
          have hbh : z ≠ bh := fun e => by have := HX.out.2; rw [e, HX.out.1.rh] at this; injection this with this; injection this with _ e2 _; exact absurd e2 (by decide)
          have HS := Lib.hid ((HX.out.1.setM k HK.out.1 Y D2 HK.out.2.2.2.2.2.2.2 (by omega)).setH k HK.out.1 true)
          have HZ8 := Lib.hid ((Below.heap_setCell ((w7.setCell ⟨bm, k * 2, none⟩ (.int .u16 (Y : Int))).setCell ⟨bm, k * 2 + 1, none⟩ (.int .u16 (D2 : Int))) ⟨bh, k, none⟩ (.bool true) z hbh).trans (((Below.heap_setCell _ ⟨bm, k * 2 + 1, none⟩ (.int .u16 (D2 : Int)) z hbm).trans (Below.heap_setCell w7 ⟨bm, k * 2, none⟩ (.int .u16 (Y : Int)) z hbm)).trans HX.out.2))
          obtain ⟨s1, hs1⟩ : ∃ s1, s1 = Y := ⟨_, rfl⟩
          obtain ⟨s2, hs2⟩ : ∃ s2, s2 = D2 := ⟨_, rfl⟩
          obtain ⟨v1, v2, hv⟩ : ∃ v1 v2, (v1, v2) = f.best a n (Y, D2) := ⟨_, _, rfl⟩
          have hv2 : v1 = Y ∧ v2 = D2 := by
            unfold Mk.best at hv
            rw [hagk] at hv
            simp only [Bool.false_eq_true, if_false] at hv
            injection hv with e1 e2
            exact ⟨e1, e2⟩
          have hbv : Ser.best (s1 : Int) (s2 : Int) (Y : Int) (D2 : Int) = .agg #[.int .u16 (v1 : Int), .int .u16 (v2 : Int)] := by
            unfold Ser.best
            rw [hs1, hs2, hv2.1, hv2.2]
            split <;> rfl
          have hvb : v1 < 65536 ∧ v2 < 65536 := by have := HK.out.2.2.2.2.2.2.2; omega
          have hc2 : c' = c + 1 := by rw [hc', hagk]; rfl
          have HFIN := Lib.hid (And.intro (show f' = f.put (pA k) (pN k) (v1, v2) by rw [hf', hv, HK.out.2.1, HK.out.2.2.1]) (And.intro hc2 (And.intro (show s1 = (up g k (Y, D2) k).1 by unfold up; rw [if_pos rfl, hs1]) (And.intro (show s2 = (up g k (Y, D2) k).2 by unfold up; rw [if_pos rfl, hs2]) hvb))))
          have CB : Hid (∀ W, Calls Try.prog 12 #[.agg #[.int .u16 (s1 : Int), .int .u16 (s2 : Int)], .agg #[.int .u16 (Y : Int), .int .u16 (D2 : Int)]] W fun e w' => e = .returned (.agg #[.int .u16 (v1 : Int), .int .u16 (v2 : Int)]) ∧ Below W.heap.size W w') := Lib.hid fun W => by
            have h2 := HK.out.2.2.2.2.2.2.2
            rw [← hbv]; exact rbest_any _ _ _ _ (by omega) (by omega) W
          clear hs1 hs2 hv hv2 hbv hvb hc2 hf' hc' hagk hhk hbm hbh
          go_upto_region 22 with (fail)
          generalize ((w7.setCell ⟨bm, k * 2, none⟩ (.int .u16 (Y : Int))).setCell ⟨bm, k * 2 + 1, none⟩ (.int .u16 (D2 : Int))).setCell ⟨bh, k, none⟩ (.bool true) = w8 at *
          have HD8 := Lib.hid (HS.out.step ((Below.refl _ _).drew))
          refine wp_region_noPanic ?_
          refine wp_region_held_drew (S := fun x : World => x.heap[z]? = some (.cells #[.int .u16 (Y : Int), .int .u16 (D2 : Int)] 28 (0, 0))) (by kernel_rfl) HZ8.out (fun hHeld => ?_)
          generalize w8.drew = wd8 at *
          clear p0 p1 pf q0 q1 q2 q3 q4
          refine wpAnyH_take (i := 0) (oi := { dst := some 77, op := Op.move (Operand.tmp 10), type := 3, pos := "law.go:56", after := #[], guard := none }) (v := .int .i64 (k : Int)) rfl (by kernel_rfl) (by kernel_rfl) (by kernel_rfl) (fun _ _ _ h => h) (Or.inl ⟨by rfl, fun w hSw => by go_simp⟩) (by assumption) ?_
          try simp only [Act.put, List.setIfInBounds_toArray, List.set_cons_zero, List.set_cons_succ]
          refine wpAnyH_take (i := 1) (oi := { dst := some 78, op := Op.move (Operand.tmp 10), type := 3, pos := "law.go:56", after := #[], guard := none }) (v := .int .i64 (k : Int)) rfl (by kernel_rfl) (by kernel_rfl) (by kernel_rfl) (fun _ _ _ h => h) (Or.inl ⟨by rfl, fun w hSw => by go_simp⟩) (by assumption) ?_
          try simp only [Act.put, List.setIfInBounds_toArray, List.set_cons_zero, List.set_cons_succ]
          refine wpAnyH_take (i := 2) (oi := { dst := some 79, op := Op.indexAddr 29 (Operand.tmp 6) (Operand.tmp 78), type := 0, pos := "law.go:56", after := #[{ on := 1, ground := Ground.data }], guard := none }) (v := .pointer (some ⟨bm, k * 2, none⟩)) rfl (by kernel_rfl) (by kernel_rfl) (by kernel_rfl) (fun _ _ _ h => h) (Or.inl ⟨by rfl, fun w hSw => by have hk18i : ¬ (18 : Int) ≤ (k : Int) := Int.not_le.2 (Int.ofNat_lt.2 HK.out.1); go_simp⟩) (by assumption) ?_
          try simp only [Act.put, List.setIfInBounds_toArray, List.set_cons_zero, List.set_cons_succ]
          refine wpAnyH_take (i := 4) (oi := { dst := some 81, op := Op.load 28 (Operand.tmp 11), type := 28, pos := "law.go:56", after := #[], guard := none }) (v := .agg #[.int .u16 (Y : Int), .int .u16 (D2 : Int)]) rfl (by kernel_rfl) (by kernel_rfl) (by kernel_rfl) (fun _ _ _ h => h) (Or.inl ⟨by rfl, fun w hSw => by obtain ⟨u0, u1, -⟩ := row2 hSw; go_simp⟩) (by assumption) ?_
          try simp only [Act.put, List.setIfInBounds_toArray, List.set_cons_zero, List.set_cons_succ]
          obtain ⟨q0, q1, q2, q3, q4⟩ := HD8.out.at_ k HK.out.1
          rw [← HFIN.out.2.2.1] at q0
          rw [← HFIN.out.2.2.2.1] at q1
          refine wpAnyH_ready (rs := [3]) (by kernel_rfl) (by simp) ?_
          refine AllReadyH.cons (o := { dst := some 80, op := Op.load 28 (Operand.tmp 79), type := 28, pos := "law.go:56", after := #[{ on := 2, ground := Ground.data }], guard := none }) rfl (fun K hK => ?_) AllReadyH.nil
          go_simp
          refine hK.out _ _ hHeld (fun hHeld => ?_)
          clear hK K
          try simp only [Act.put, List.setIfInBounds_toArray, List.set_cons_zero, List.set_cons_succ]
          refine wpAnyH_ready (rs := [5]) (by kernel_rfl) (by simp) ?_
          refine AllReadyH.cons (o := { dst := some 82, op := Op.call { callee := Callee.value (Operand.func 12), args := #[Operand.tmp 80, Operand.tmp 81], argTypes := #[28, 28] }, type := 28, pos := "law.go:56", after := #[{ on := 3, ground := Ground.data }, { on := 4, ground := Ground.data }], guard := none }) rfl (fun K hK => ?_) AllReadyH.nil
          go_simp
          with_reducible refine (CB.out _).mono ?_
          rintro e w9 ⟨rfl, B9⟩
          refine hK.out _ _ ((B9.block _ (Array.getElem?_eq_some_iff.1 hHeld).1).trans hHeld) (fun hHeld2 => ?_)
          clear hK K
          have H9 := Lib.hid (HD8.out.step B9)
          clear hHeld B9 q0 q1 q2 q3 q4
          have hHeld := hHeld2
          clear hHeld2
          try simp only [Act.put, List.setIfInBounds_toArray, List.set_cons_zero, List.set_cons_succ]
          refine wpAnyH_take (i := 6) (oi := { dst := some 83, op := Op.indexAddr 29 (Operand.tmp 6) (Operand.tmp 77), type := 0, pos := "law.go:56", after := #[{ on := 0, ground := Ground.data }, { on := 0, ground := Ground.phase }, { on := 1, ground := Ground.phase }, { on := 2, ground := Ground.phase }, { on := 3, ground := Ground.phase }, { on := 4, ground := Ground.phase }, { on := 5, ground := Ground.phase }], guard := none }) (v := .pointer (some ⟨bm, k * 2, none⟩)) rfl (by kernel_rfl) (by kernel_rfl) (by kernel_rfl) (fun _ _ _ h => h) (Or.inl ⟨by rfl, fun w hSw => by have hk18i : ¬ (18 : Int) ≤ (k : Int) := Int.not_le.2 (Int.ofNat_lt.2 HK.out.1); go_simp⟩) (by assumption) ?_
          try simp only [Act.put, List.setIfInBounds_toArray, List.set_cons_zero, List.set_cons_succ]
          obtain ⟨q0, q1, q2, q3, q4⟩ := H9.out.at_ k HK.out.1
          refine wpAnyH_ready (rs := [7]) (by kernel_rfl) (by simp) ?_
          refine AllReadyH.cons (o := { dst := none, op := Op.store 28 (Operand.tmp 83) (Operand.tmp 82), type := 0, pos := "law.go:56", after := #[{ on := 6, ground := Ground.data }, { on := 5, ground := Ground.data }, { on := 5, ground := Ground.chain }, { on := 0, ground := Ground.phase }, { on := 1, ground := Ground.phase }, { on := 2, ground := Ground.phase }, { on := 3, ground := Ground.phase }, { on := 4, ground := Ground.phase }, { on := 5, ground := Ground.phase }], guard := none }) rfl (fun K hK => ?_) AllReadyH.nil
          go_simp
          have hbm9 : z ≠ bm := fun e => by have := hHeld; rw [e, H9.out.rm] at this; injection this with this; injection this with _ e2 _; exact absurd e2 (by decide)
          refine hK.out _ _ (((Below.heap_setCell _ ⟨bm, k * 2 + 1, none⟩ (.int .u16 (v2 : Int)) z hbm9).trans (Below.heap_setCell w9 ⟨bm, k * 2, none⟩ (.int .u16 (v1 : Int)) z hbm9)).trans hHeld) (fun hHeld2 => ?_)
          clear hK K hHeld
          have hHeld := hHeld2
          clear hHeld2 q0 q1 q2 q3 q4 hbm9
          try simp only [Act.put, List.setIfInBounds_toArray, List.set_cons_zero, List.set_cons_succ]
          refine wpAnyH_done (by kernel_rfl) ?_ _
          try unfold NoPanic
          have HPX := Lib.hid (H9.out.setM k HK.out.1 v1 v2 HFIN.out.2.2.2.2.1 HFIN.out.2.2.2.2.2)
          clear hHeld
          generalize (w9.setCell ⟨bm, k * 2, none⟩ (.int .u16 (v1 : Int))).setCell ⟨bm, k * 2 + 1, none⟩ (.int .u16 (v2 : Int)) = w10 at *
          go_wp2
          go_roundw
          case rel => exact ⟨i + 1, c', f', _, _, hlt, by rw [HFIN.out.2.1]; go_num, by go_num, by have := HFIN.out.2.1; omega, ⟨HPX.out, by rw [HFIN.out.1, up_up]; exact HR.out.2.put k HK.out.1 HK.out.2.2.2.1 (v1, v2)⟩⟩
          case measure => simp [intOf]; omega
    · obtain rfl : i = len0 := by omega
      have HR0 := HR
      clear HZ
      go_wp2
      go_loopw [13] (fun v13 wk => ∃ k : Nat, k ≤ 18 ∧ v13 = .int .i64 k ∧ Hid (PX w wk q bm bh f c g h)) (fun v13 _ => 18 - (intOf v13).toNat)
      case atStart => exact ⟨0, Nat.zero_le _, rfl, HR0.out.1⟩
      case round =>
        obtain ⟨k, hk, rfl, HP⟩ := hrel
        rcases Nat.lt_or_ge k 18 with hlt2 | hge2
        · have hwk : IntKind.u8.wrap (k : Int) = k := by rw [IntKind.wrap_u8]; omega
          have hk18i : ¬ (18 : Int) ≤ (k : Int) := by omega
          obtain ⟨a, ha⟩ : ∃ a, a = pA k := ⟨_, rfl⟩
          obtain ⟨n, hn⟩ : ∃ n, n = pN k := ⟨_, rfl⟩
          obtain ⟨F, hF⟩ : ∃ F, F = fk k := ⟨_, rfl⟩
          have CK : Hid (∀ W, Calls Try.prog 9 #[.int .u8 k] W fun e w' => e = .returned (.agg #[.int .u32 (a : Int), .int .u8 (n : Int)]) ∧ Below W.heap.size W w') := Lib.hid fun W => by rw [ha, hn]; exact prefix_n k (by omega) W
          have CF : Hid (∀ W, Calls Try.prog 8 #[.agg #[.int .u32 (a : Int), .int .u8 (n : Int)]] W fun e w' => e = .returned (.int .i64 (F : Int)) ∧ Below W.heap.size W w') := Lib.hid fun W => by rw [ha, hn, hF]; exact first_n k W
          by_cases hFk : F = k
          · have hagk := HR0.out.2 k hlt2 (by rw [← hF, hFk])
            rw [← ha, ← hn] at hagk
            have hal : a < 4294967296 := by rw [ha]; exact pA_lt k
            have hnl : n < 256 := by rw [hn]; have := pN_le k; omega
            clear ha hn hF
            subst hFk
            obtain ⟨x1, x2, hx⟩ : ∃ x1 x2 : Nat, lookV (f a n) = .agg #[.int .u16 (x1 : Int), .int .u16 (x2 : Int)] := by obtain ⟨x, hx, -⟩ := look_form f a n; exact ⟨_, _, hx⟩
            cases hhk : h F with
            | false =>
              rw [hhk] at hagk
              have hfn : f a n = none := hagk
              have CX : Hid (∀ W, PX w W q bm bh f c g h → Calls Try.prog 13 #[.pointer (some ⟨q, 0, none⟩), .agg #[.int .u32 (a : Int), .int .u8 (n : Int)]] W fun e w' => e = .returned (.tuple #[.agg #[.int .u16 (x1 : Int), .int .u16 (x2 : Int)], .bool false]) ∧ Below W.heap.size W w') := Lib.hid fun W hW => by
                have := Mark_any W q f c hW.s a n hal hnl
                rw [hx, hfn] at this
                exact this
              have CW : Hid (∀ W, PX w W q bm bh f c g h → Calls Try.prog 14 #[.pointer (some ⟨q, 0, none⟩), .agg #[.int .u32 (a : Int), .int .u8 (n : Int)]] W fun e w' => e = .returned (.tuple #[.int .u16 0, .bool false]) ∧ Below W.heap.size W w') := Lib.hid fun W hW => by
                have := Wants_any W q f c hW.s a n hal hnl
                rw [hfn] at this
                exact this
              clear hagk hfn hx
              go_upto_region 29 with (first
                | (go_at_call 9; (with_reducible refine (CK.out _).mono ?_); rintro e w3 ⟨rfl, B3⟩; have H3 := Lib.hid (HP.out.step B3); clear B3)
                | (go_at_call 8; (with_reducible refine (CF.out _).mono ?_); rintro e w4 ⟨rfl, B4⟩; have H4 := Lib.hid (H3.out.step B4); clear B4)
                | (go_at_call 9; (with_reducible refine (CK.out _).mono ?_); rintro e w5 ⟨rfl, B5⟩; have H5 := Lib.hid (H4.out.step B5); clear B5)
                | (go_at_call 13; (with_reducible refine (CX.out _ H5.out).mono ?_); rintro e w6 ⟨rfl, B6⟩; have H6 := Lib.hid ((H5.out.step B6).step ((Below.refl _ _).alloc (Nat.le_refl _) (.cells #[.int .u16 (x1 : Int), .int .u16 (x2 : Int)] 28))); have HZ6 := Lib.hid (heap_alloc_new w6 (.cells #[.int .u16 (x1 : Int), .int .u16 (x2 : Int)] 28)); clear B6)
                | (go_at_call 9; (with_reducible refine (CK.out _).mono ?_); rintro e wk7 ⟨rfl, B7⟩; have H7 := Lib.hid (And.intro (H6.out.step B7) ((B7.block _ (Array.getElem?_eq_some_iff.1 HZ6.out).1).trans HZ6.out)); clear B7)
                | (go_at_call 14; (with_reducible refine (CW.out _ H7.out.1).mono ?_); rintro e w7 ⟨rfl, B8⟩; have HX := Lib.hid (H7.out.1.step B8); have HZ8 := Lib.hid ((B8.block _ (Array.getElem?_eq_some_iff.1 H7.out.2).1).trans H7.out.2); clear B8))
              generalize w6.heap.size = z at *
              refine wp_region_noPanic ?_
              refine wp_region_held_drew (S := fun x : World => x.heap[z]? = some (.cells #[.int .u16 (x1 : Int), .int .u16 (x2 : Int)] 28 (0, 0)) ∧ PX w x q bm bh f c g h) (by kernel_rfl) ⟨HZ8.out, HX.out.step (Below.refl _ _).drew⟩ (fun hHeld => ?_)
              have HDR := Lib.hid (HX.out.step (Below.refl _ _).drew)
              generalize w7.drew = wd at *
              refine wpAnyH_take (i := 0) (oi := { dst := some 110, op := Op.move (Operand.tmp 15), type := 4, pos := "law.go:64", after := #[], guard := none }) (v := .bool false) rfl (by kernel_rfl) (by kernel_rfl) (by kernel_rfl) (fun _ _ _ h => h) (Or.inl ⟨by rfl, fun w hSw => by go_simp⟩) (by assumption) ?_
              try simp only [Act.put, List.setIfInBounds_toArray, List.set_cons_zero, List.set_cons_succ]
              refine wpAnyH_take (i := 1) (oi := { dst := some 111, op := Op.move (Operand.tmp 13), type := 3, pos := "law.go:64", after := #[], guard := none }) (v := .int .i64 (F : Int)) rfl (by kernel_rfl) (by kernel_rfl) (by kernel_rfl) (fun _ _ _ h => h) (Or.inl ⟨by rfl, fun w hSw => by go_simp⟩) (by assumption) ?_
              try simp only [Act.put, List.setIfInBounds_toArray, List.set_cons_zero, List.set_cons_succ]
              refine wpAnyH_take (i := 2) (oi := { dst := some 112, op := Op.indexAddr 30 (Operand.tmp 7) (Operand.tmp 111), type := 0, pos := "law.go:64", after := #[{ on := 1, ground := Ground.data }], guard := none }) (v := .pointer (some ⟨bh, F, none⟩)) rfl (by kernel_rfl) (by kernel_rfl) (by kernel_rfl) (fun _ _ _ h => h) (Or.inl ⟨by rfl, fun w hSw => by go_simp⟩) (by assumption) ?_
              try simp only [Act.put, List.setIfInBounds_toArray, List.set_cons_zero, List.set_cons_succ]
              refine wpAnyH_take (i := 3) (oi := { dst := some 113, op := Op.load 4 (Operand.tmp 112), type := 4, pos := "law.go:64", after := #[{ on := 2, ground := Ground.data }], guard := none }) (v := .bool false) rfl (by kernel_rfl) (by kernel_rfl) (by kernel_rfl) (fun _ _ _ h => h) (Or.inl ⟨by rfl, fun w hSw => by obtain ⟨p0, p1, -⟩ := row2 hSw.1; obtain ⟨q0, q1, q2, -, -⟩ := hSw.2.at_ F hlt2; rw [hhk] at q2; go_simp⟩) (by assumption) ?_
              try simp only [Act.put, List.setIfInBounds_toArray, List.set_cons_zero, List.set_cons_succ]
              refine wpAnyH_take (i := 4) (oi := { dst := some 114, op := Op.binOp BinOp.neq 4 (Operand.tmp 110) (Operand.tmp 113) 4, type := 4, pos := "law.go:64", after := #[{ on := 0, ground := Ground.data }, { on := 3, ground := Ground.data }], guard := none }) (v := .bool false) rfl (by kernel_rfl) (by kernel_rfl) (by kernel_rfl) (fun _ _ _ h => h) (Or.inl ⟨by rfl, fun w hSw => by go_simp⟩) (by assumption) ?_
              try simp only [Act.put, List.setIfInBounds_toArray, List.set_cons_zero, List.set_cons_succ]
              refine wpAnyH_take (i := 5) (oi := { dst := some 115, op := Op.move (Operand.tmp 114), type := 4, pos := "law.go:64", after := #[{ on := 4, ground := Ground.data }], guard := none }) (v := .bool false) rfl (by kernel_rfl) (by kernel_rfl) (by kernel_rfl) (fun _ _ _ h => h) (Or.inl ⟨by rfl, fun w hSw => by go_simp⟩) (by assumption) ?_
              try simp only [Act.put, List.setIfInBounds_toArray, List.set_cons_zero, List.set_cons_succ]
              refine wpAnyH_take (i := 6) (oi := { dst := some 116, op := Op.move (Operand.tmp 17), type := 4, pos := "law.go:64", after := #[{ on := 5, ground := Ground.guard }], guard := some (5, false) }) (v := .bool false) rfl (by kernel_rfl) (by kernel_rfl) (by kernel_rfl) (fun _ _ _ h => h) (Or.inl ⟨by rfl, fun w hSw => by go_simp⟩) (by assumption) ?_
              try simp only [Act.put, List.setIfInBounds_toArray, List.set_cons_zero, List.set_cons_succ]
              refine wpAnyH_take (i := 7) (oi := { dst := some 117, op := Op.move (Operand.tmp 13), type := 3, pos := "law.go:64", after := #[{ on := 5, ground := Ground.guard }], guard := some (5, false) }) (v := .int .i64 (F : Int)) rfl (by kernel_rfl) (by kernel_rfl) (by kernel_rfl) (fun _ _ _ h => h) (Or.inl ⟨by rfl, fun w hSw => by go_simp⟩) (by assumption) ?_
              try simp only [Act.put, List.setIfInBounds_toArray, List.set_cons_zero, List.set_cons_succ]
              refine wpAnyH_take (i := 8) (oi := { dst := some 118, op := Op.indexAddr 30 (Operand.tmp 7) (Operand.tmp 117), type := 0, pos := "law.go:64", after := #[{ on := 7, ground := Ground.data }, { on := 5, ground := Ground.guard }], guard := some (5, false) }) (v := .pointer (some ⟨bh, F, none⟩)) rfl (by kernel_rfl) (by kernel_rfl) (by kernel_rfl) (fun _ _ _ h => h) (Or.inl ⟨by rfl, fun w hSw => by go_simp⟩) (by assumption) ?_
              try simp only [Act.put, List.setIfInBounds_toArray, List.set_cons_zero, List.set_cons_succ]
              refine wpAnyH_take (i := 9) (oi := { dst := some 119, op := Op.load 4 (Operand.tmp 118), type := 4, pos := "law.go:64", after := #[{ on := 8, ground := Ground.data }, { on := 5, ground := Ground.guard }], guard := some (5, false) }) (v := .bool false) rfl (by kernel_rfl) (by kernel_rfl) (by kernel_rfl) (fun _ _ _ h => h) (Or.inl ⟨by rfl, fun w hSw => by obtain ⟨p0, p1, -⟩ := row2 hSw.1; obtain ⟨q0, q1, q2, -, -⟩ := hSw.2.at_ F hlt2; rw [hhk] at q2; go_simp⟩) (by assumption) ?_
              try simp only [Act.put, List.setIfInBounds_toArray, List.set_cons_zero, List.set_cons_succ]
              refine wpAnyH_take (i := 10) (oi := { dst := some 120, op := Op.binOp BinOp.neq 4 (Operand.tmp 116) (Operand.tmp 119) 4, type := 4, pos := "law.go:64", after := #[{ on := 6, ground := Ground.data }, { on := 9, ground := Ground.data }, { on := 5, ground := Ground.guard }], guard := some (5, false) }) (v := .bool false) rfl (by kernel_rfl) (by kernel_rfl) (by kernel_rfl) (fun _ _ _ h => h) (Or.inl ⟨by rfl, fun w hSw => by go_simp⟩) (by assumption) ?_
              try simp only [Act.put, List.setIfInBounds_toArray, List.set_cons_zero, List.set_cons_succ]
              refine wpAnyH_take (i := 11) (oi := { dst := some 121, op := Op.pick (Operand.tmp 115) (Operand.const (Value.bool true)) (Operand.tmp 120), type := 4, pos := "law.go:64", after := #[{ on := 5, ground := Ground.data }, { on := 10, ground := Ground.data }], guard := none }) (v := .bool false) rfl (by kernel_rfl) (by kernel_rfl) (by kernel_rfl) (fun _ _ _ h => h) (Or.inl ⟨by rfl, fun w hSw => by go_simp⟩) (by assumption) ?_
              try simp only [Act.put, List.setIfInBounds_toArray, List.set_cons_zero, List.set_cons_succ]
              refine wpAnyH_take (i := 12) (oi := { dst := some 122, op := Op.move (Operand.tmp 121), type := 4, pos := "law.go:64", after := #[{ on := 11, ground := Ground.data }, { on := 5, ground := Ground.chain }], guard := none }) (v := .bool false) rfl (by kernel_rfl) (by kernel_rfl) (by kernel_rfl) (fun _ _ _ h => h) (Or.inl ⟨by rfl, fun w hSw => by go_simp⟩) (by assumption) ?_
              try simp only [Act.put, List.setIfInBounds_toArray, List.set_cons_zero, List.set_cons_succ]
              refine wpAnyH_take (i := 13) (oi := { dst := some 123, op := Op.move (Operand.tmp 15), type := 4, pos := "law.go:64", after := #[{ on := 12, ground := Ground.guard }], guard := some (12, false) }) (v := .bool false) rfl (by kernel_rfl) (by kernel_rfl) (by kernel_rfl) (fun _ _ _ h => h) (Or.inl ⟨by rfl, fun w hSw => by go_simp⟩) (by assumption) ?_
              try simp only [Act.put, List.setIfInBounds_toArray, List.set_cons_zero, List.set_cons_succ]
              refine wpAnyH_take (i := 14) (oi := { dst := some 124, op := Op.move (Operand.tmp 123), type := 4, pos := "law.go:64", after := #[{ on := 13, ground := Ground.data }, { on := 12, ground := Ground.chain }, { on := 12, ground := Ground.guard }], guard := some (12, false) }) (v := .bool false) rfl (by kernel_rfl) (by kernel_rfl) (by kernel_rfl) (fun _ _ _ h => h) (Or.inl ⟨by rfl, fun w hSw => by go_simp⟩) (by assumption) ?_
              try simp only [Act.put, List.setIfInBounds_toArray, List.set_cons_zero, List.set_cons_succ]
              refine wpAnyH_take (i := 15) (oi := { dst := some 125, op := Op.load 28 (Operand.tmp 14), type := 28, pos := "law.go:64", after := #[{ on := 14, ground := Ground.guard }], guard := some (14, true) }) (v := undef) rfl (by kernel_rfl) (by kernel_rfl) (by kernel_rfl) (fun _ _ _ h => h) (Or.inr ⟨by rfl, rfl⟩) (by assumption) ?_
              try simp only [Act.put, List.setIfInBounds_toArray, List.set_cons_zero, List.set_cons_succ]
              refine wpAnyH_take (i := 16) (oi := { dst := some 126, op := Op.move (Operand.tmp 13), type := 3, pos := "law.go:64", after := #[{ on := 14, ground := Ground.guard }], guard := some (14, true) }) (v := undef) rfl (by kernel_rfl) (by kernel_rfl) (by kernel_rfl) (fun _ _ _ h => h) (Or.inr ⟨by rfl, rfl⟩) (by assumption) ?_
              try simp only [Act.put, List.setIfInBounds_toArray, List.set_cons_zero, List.set_cons_succ]
              refine wpAnyH_take (i := 17) (oi := { dst := some 127, op := Op.indexAddr 29 (Operand.tmp 6) (Operand.tmp 126), type := 0, pos := "law.go:64", after := #[{ on := 16, ground := Ground.data }, { on := 14, ground := Ground.guard }], guard := some (14, true) }) (v := undef) rfl (by kernel_rfl) (by kernel_rfl) (by kernel_rfl) (fun _ _ _ h => h) (Or.inr ⟨by rfl, rfl⟩) (by assumption) ?_
              try simp only [Act.put, List.setIfInBounds_toArray, List.set_cons_zero, List.set_cons_succ]
              refine wpAnyH_take (i := 18) (oi := { dst := some 128, op := Op.load 28 (Operand.tmp 127), type := 28, pos := "law.go:64", after := #[{ on := 17, ground := Ground.data }, { on := 14, ground := Ground.guard }], guard := some (14, true) }) (v := undef) rfl (by kernel_rfl) (by kernel_rfl) (by kernel_rfl) (fun _ _ _ h => h) (Or.inr ⟨by rfl, rfl⟩) (by assumption) ?_
              try simp only [Act.put, List.setIfInBounds_toArray, List.set_cons_zero, List.set_cons_succ]
              refine wpAnyH_take (i := 19) (oi := { dst := some 129, op := Op.binOp BinOp.neq 28 (Operand.tmp 125) (Operand.tmp 128) 28, type := 4, pos := "law.go:64", after := #[{ on := 15, ground := Ground.data }, { on := 18, ground := Ground.data }, { on := 14, ground := Ground.guard }], guard := some (14, true) }) (v := undef) rfl (by kernel_rfl) (by kernel_rfl) (by kernel_rfl) (fun _ _ _ h => h) (Or.inr ⟨by rfl, rfl⟩) (by assumption) ?_
              try simp only [Act.put, List.setIfInBounds_toArray, List.set_cons_zero, List.set_cons_succ]
              refine wpAnyH_take (i := 20) (oi := { dst := some 130, op := Op.move (Operand.tmp 129), type := 4, pos := "law.go:64", after := #[{ on := 19, ground := Ground.data }, { on := 14, ground := Ground.chain }, { on := 14, ground := Ground.guard }], guard := some (14, true) }) (v := undef) rfl (by kernel_rfl) (by kernel_rfl) (by kernel_rfl) (fun _ _ _ h => h) (Or.inr ⟨by rfl, rfl⟩) (by assumption) ?_
              try simp only [Act.put, List.setIfInBounds_toArray, List.set_cons_zero, List.set_cons_succ]
              refine wpAnyH_take (i := 21) (oi := { dst := some 131, op := Op.move (Operand.tmp 16), type := 26, pos := "law.go:64", after := #[{ on := 20, ground := Ground.guard }], guard := some (20, false) }) (v := undef) rfl (by kernel_rfl) (by kernel_rfl) (by kernel_rfl) (fun _ _ _ h => h) (Or.inr ⟨by rfl, rfl⟩) (by assumption) ?_
              try simp only [Act.put, List.setIfInBounds_toArray, List.set_cons_zero, List.set_cons_succ]
              refine wpAnyH_take (i := 22) (oi := { dst := some 132, op := Op.move (Operand.tmp 13), type := 3, pos := "law.go:64", after := #[{ on := 20, ground := Ground.guard }], guard := some (20, false) }) (v := undef) rfl (by kernel_rfl) (by kernel_rfl) (by kernel_rfl) (fun _ _ _ h => h) (Or.inr ⟨by rfl, rfl⟩) (by assumption) ?_
              try simp only [Act.put, List.setIfInBounds_toArray, List.set_cons_zero, List.set_cons_succ]
              refine wpAnyH_take (i := 23) (oi := { dst := some 133, op := Op.indexAddr 29 (Operand.tmp 6) (Operand.tmp 132), type := 0, pos := "law.go:64", after := #[{ on := 22, ground := Ground.data }, { on := 20, ground := Ground.guard }], guard := some (20, false) }) (v := undef) rfl (by kernel_rfl) (by kernel_rfl) (by kernel_rfl) (fun _ _ _ h => h) (Or.inr ⟨by rfl, rfl⟩) (by assumption) ?_
              try simp only [Act.put, List.setIfInBounds_toArray, List.set_cons_zero, List.set_cons_succ]
              refine wpAnyH_take (i := 24) (oi := { dst := some 134, op := Op.fieldAddr 28 (Operand.tmp 133) 0, type := 0, pos := "law.go:64", after := #[{ on := 23, ground := Ground.data }, { on := 20, ground := Ground.guard }], guard := some (20, false) }) (v := undef) rfl (by kernel_rfl) (by kernel_rfl) (by kernel_rfl) (fun _ _ _ h => h) (Or.inr ⟨by rfl, rfl⟩) (by assumption) ?_
              try simp only [Act.put, List.setIfInBounds_toArray, List.set_cons_zero, List.set_cons_succ]
              refine wpAnyH_take (i := 25) (oi := { dst := some 135, op := Op.load 26 (Operand.tmp 134), type := 26, pos := "law.go:64", after := #[{ on := 24, ground := Ground.data }, { on := 20, ground := Ground.guard }], guard := some (20, false) }) (v := undef) rfl (by kernel_rfl) (by kernel_rfl) (by kernel_rfl) (fun _ _ _ h => h) (Or.inr ⟨by rfl, rfl⟩) (by assumption) ?_
              try simp only [Act.put, List.setIfInBounds_toArray, List.set_cons_zero, List.set_cons_succ]
              refine wpAnyH_take (i := 26) (oi := { dst := some 136, op := Op.binOp BinOp.add 26 (Operand.tmp 135) (Operand.const (Value.int IntKind.u16 1)) 26, type := 26, pos := "law.go:64", after := #[{ on := 25, ground := Ground.data }, { on := 20, ground := Ground.guard }], guard := some (20, false) }) (v := undef) rfl (by kernel_rfl) (by kernel_rfl) (by kernel_rfl) (fun _ _ _ h => h) (Or.inr ⟨by rfl, rfl⟩) (by assumption) ?_
              try simp only [Act.put, List.setIfInBounds_toArray, List.set_cons_zero, List.set_cons_succ]
              refine wpAnyH_take (i := 27) (oi := { dst := some 137, op := Op.binOp BinOp.neq 26 (Operand.tmp 131) (Operand.tmp 136) 26, type := 4, pos := "law.go:64", after := #[{ on := 21, ground := Ground.data }, { on := 26, ground := Ground.data }, { on := 20, ground := Ground.guard }], guard := some (20, false) }) (v := undef) rfl (by kernel_rfl) (by kernel_rfl) (by kernel_rfl) (fun _ _ _ h => h) (Or.inr ⟨by rfl, rfl⟩) (by assumption) ?_
              try simp only [Act.put, List.setIfInBounds_toArray, List.set_cons_zero, List.set_cons_succ]
              refine wpAnyH_take (i := 28) (oi := { dst := some 138, op := Op.pick (Operand.tmp 130) (Operand.const (Value.bool true)) (Operand.tmp 137), type := 4, pos := "law.go:64", after := #[{ on := 20, ground := Ground.data }, { on := 27, ground := Ground.data }, { on := 14, ground := Ground.guard }], guard := some (14, true) }) (v := undef) rfl (by kernel_rfl) (by kernel_rfl) (by kernel_rfl) (fun _ _ _ h => h) (Or.inr ⟨by rfl, rfl⟩) (by assumption) ?_
              try simp only [Act.put, List.setIfInBounds_toArray, List.set_cons_zero, List.set_cons_succ]
              refine wpAnyH_take (i := 29) (oi := { dst := some 139, op := Op.pick (Operand.tmp 124) (Operand.tmp 138) (Operand.const (Value.bool false)), type := 4, pos := "law.go:64", after := #[{ on := 14, ground := Ground.data }, { on := 28, ground := Ground.data }, { on := 12, ground := Ground.guard }], guard := some (12, false) }) (v := .bool false) rfl (by kernel_rfl) (by kernel_rfl) (by kernel_rfl) (fun _ _ _ h => h) (Or.inl ⟨by rfl, fun w hSw => by go_simp⟩) (by assumption) ?_
              try simp only [Act.put, List.setIfInBounds_toArray, List.set_cons_zero, List.set_cons_succ]
              refine wpAnyH_take (i := 30) (oi := { dst := some 140, op := Op.pick (Operand.tmp 122) (Operand.const (Value.bool true)) (Operand.tmp 139), type := 4, pos := "law.go:64", after := #[{ on := 12, ground := Ground.data }, { on := 29, ground := Ground.data }], guard := none }) (v := .bool false) rfl (by kernel_rfl) (by kernel_rfl) (by kernel_rfl) (fun _ _ _ h => h) (Or.inl ⟨by rfl, fun w hSw => by go_simp⟩) (by assumption) ?_
              try simp only [Act.put, List.setIfInBounds_toArray, List.set_cons_zero, List.set_cons_succ]
              refine wpAnyH_done (by kernel_rfl) ?_ _
              try unfold NoPanic
              clear hHeld
              go_wp2
              go_roundw
              case rel => exact ⟨F + 1, by omega, by go_num, HDR.out⟩
              case measure => simp [intOf]; omega
            | true =>
              rw [hhk] at hagk
              have hfn : f a n = some (g F) := hagk
              obtain ⟨s1, hs1⟩ : ∃ s1, s1 = (g F).1 := ⟨_, rfl⟩
              obtain ⟨s2, hs2⟩ : ∃ s2, s2 = (g F).2 := ⟨_, rfl⟩
              have hlv : lookV (f a n) = .agg #[.int .u16 (s1 : Int), .int .u16 (s2 : Int)] := by rw [hfn, hs1, hs2]; rfl
              clear hx
              have CX : Hid (∀ W, PX w W q bm bh f c g h → Calls Try.prog 13 #[.pointer (some ⟨q, 0, none⟩), .agg #[.int .u32 (a : Int), .int .u8 (n : Int)]] W fun e w' => e = .returned (.tuple #[.agg #[.int .u16 (s1 : Int), .int .u16 (s2 : Int)], .bool true]) ∧ Below W.heap.size W w') := Lib.hid fun W hW => by
                have := Mark_any W q f c hW.s a n hal hnl
                rw [hlv, hfn] at this
                exact this
              have CW : Hid (∀ W, PX w W q bm bh f c g h → Calls Try.prog 14 #[.pointer (some ⟨q, 0, none⟩), .agg #[.int .u32 (a : Int), .int .u8 (n : Int)]] W fun e w' => e = .returned (.tuple #[.int .u16 (((s1 : Int) + 1) % 65536), .bool true]) ∧ Below W.heap.size W w') := Lib.hid fun W hW => by
                have := Wants_any W q f c hW.s a n hal hnl
                rw [hfn] at this
                simp only at this
                rw [← hs1] at this
                exact this
              have HS1 := Lib.hid (And.intro hs1 hs2)
              clear hagk hfn hlv hs1 hs2
              generalize s1 = x1 at *
              generalize s2 = x2 at *
              go_upto_region 29 with (first
                | (go_at_call 9; (with_reducible refine (CK.out _).mono ?_); rintro e w3 ⟨rfl, B3⟩; have H3 := Lib.hid (HP.out.step B3); clear B3)
                | (go_at_call 8; (with_reducible refine (CF.out _).mono ?_); rintro e w4 ⟨rfl, B4⟩; have H4 := Lib.hid (H3.out.step B4); clear B4)
                | (go_at_call 9; (with_reducible refine (CK.out _).mono ?_); rintro e w5 ⟨rfl, B5⟩; have H5 := Lib.hid (H4.out.step B5); clear B5)
                | (go_at_call 13; (with_reducible refine (CX.out _ H5.out).mono ?_); rintro e w6 ⟨rfl, B6⟩; have H6 := Lib.hid ((H5.out.step B6).step ((Below.refl _ _).alloc (Nat.le_refl _) (.cells #[.int .u16 (x1 : Int), .int .u16 (x2 : Int)] 28))); have HZ6 := Lib.hid (heap_alloc_new w6 (.cells #[.int .u16 (x1 : Int), .int .u16 (x2 : Int)] 28)); clear B6)
                | (go_at_call 9; (with_reducible refine (CK.out _).mono ?_); rintro e wk7 ⟨rfl, B7⟩; have H7 := Lib.hid (And.intro (H6.out.step B7) ((B7.block _ (Array.getElem?_eq_some_iff.1 HZ6.out).1).trans HZ6.out)); clear B7)
                | (go_at_call 14; (with_reducible refine (CW.out _ H7.out.1).mono ?_); rintro e w7 ⟨rfl, B8⟩; have HX := Lib.hid (H7.out.1.step B8); have HZ8 := Lib.hid ((B8.block _ (Array.getElem?_eq_some_iff.1 H7.out.2).1).trans H7.out.2); clear B8))
              generalize w6.heap.size = z at *
              refine wp_region_noPanic ?_
              refine wp_region_held_drew (S := fun x : World => x.heap[z]? = some (.cells #[.int .u16 (x1 : Int), .int .u16 (x2 : Int)] 28 (0, 0)) ∧ PX w x q bm bh f c g h) (by kernel_rfl) ⟨HZ8.out, HX.out.step (Below.refl _ _).drew⟩ (fun hHeld => ?_)
              have HDR := Lib.hid (HX.out.step (Below.refl _ _).drew)
              generalize w7.drew = wd at *
              refine wpAnyH_take (i := 0) (oi := { dst := some 110, op := Op.move (Operand.tmp 15), type := 4, pos := "law.go:64", after := #[], guard := none }) (v := .bool true) rfl (by kernel_rfl) (by kernel_rfl) (by kernel_rfl) (fun _ _ _ h => h) (Or.inl ⟨by rfl, fun w hSw => by go_simp⟩) (by assumption) ?_
              try simp only [Act.put, List.setIfInBounds_toArray, List.set_cons_zero, List.set_cons_succ]
              refine wpAnyH_take (i := 1) (oi := { dst := some 111, op := Op.move (Operand.tmp 13), type := 3, pos := "law.go:64", after := #[], guard := none }) (v := .int .i64 (F : Int)) rfl (by kernel_rfl) (by kernel_rfl) (by kernel_rfl) (fun _ _ _ h => h) (Or.inl ⟨by rfl, fun w hSw => by go_simp⟩) (by assumption) ?_
              try simp only [Act.put, List.setIfInBounds_toArray, List.set_cons_zero, List.set_cons_succ]
              refine wpAnyH_take (i := 2) (oi := { dst := some 112, op := Op.indexAddr 30 (Operand.tmp 7) (Operand.tmp 111), type := 0, pos := "law.go:64", after := #[{ on := 1, ground := Ground.data }], guard := none }) (v := .pointer (some ⟨bh, F, none⟩)) rfl (by kernel_rfl) (by kernel_rfl) (by kernel_rfl) (fun _ _ _ h => h) (Or.inl ⟨by rfl, fun w hSw => by go_simp⟩) (by assumption) ?_
              try simp only [Act.put, List.setIfInBounds_toArray, List.set_cons_zero, List.set_cons_succ]
              refine wpAnyH_take (i := 3) (oi := { dst := some 113, op := Op.load 4 (Operand.tmp 112), type := 4, pos := "law.go:64", after := #[{ on := 2, ground := Ground.data }], guard := none }) (v := .bool true) rfl (by kernel_rfl) (by kernel_rfl) (by kernel_rfl) (fun _ _ _ h => h) (Or.inl ⟨by rfl, fun w hSw => by obtain ⟨p0, p1, -⟩ := row2 hSw.1; obtain ⟨q0, q1, q2, -, -⟩ := hSw.2.at_ F hlt2; rw [hhk] at q2; rw [← HS1.out.1] at q0; rw [← HS1.out.2] at q1; go_simp⟩) (by assumption) ?_
              try simp only [Act.put, List.setIfInBounds_toArray, List.set_cons_zero, List.set_cons_succ]
              refine wpAnyH_take (i := 4) (oi := { dst := some 114, op := Op.binOp BinOp.neq 4 (Operand.tmp 110) (Operand.tmp 113) 4, type := 4, pos := "law.go:64", after := #[{ on := 0, ground := Ground.data }, { on := 3, ground := Ground.data }], guard := none }) (v := .bool false) rfl (by kernel_rfl) (by kernel_rfl) (by kernel_rfl) (fun _ _ _ h => h) (Or.inl ⟨by rfl, fun w hSw => by go_simp⟩) (by assumption) ?_
              try simp only [Act.put, List.setIfInBounds_toArray, List.set_cons_zero, List.set_cons_succ]
              refine wpAnyH_take (i := 5) (oi := { dst := some 115, op := Op.move (Operand.tmp 114), type := 4, pos := "law.go:64", after := #[{ on := 4, ground := Ground.data }], guard := none }) (v := .bool false) rfl (by kernel_rfl) (by kernel_rfl) (by kernel_rfl) (fun _ _ _ h => h) (Or.inl ⟨by rfl, fun w hSw => by go_simp⟩) (by assumption) ?_
              try simp only [Act.put, List.setIfInBounds_toArray, List.set_cons_zero, List.set_cons_succ]
              refine wpAnyH_take (i := 6) (oi := { dst := some 116, op := Op.move (Operand.tmp 17), type := 4, pos := "law.go:64", after := #[{ on := 5, ground := Ground.guard }], guard := some (5, false) }) (v := .bool true) rfl (by kernel_rfl) (by kernel_rfl) (by kernel_rfl) (fun _ _ _ h => h) (Or.inl ⟨by rfl, fun w hSw => by go_simp⟩) (by assumption) ?_
              try simp only [Act.put, List.setIfInBounds_toArray, List.set_cons_zero, List.set_cons_succ]
              refine wpAnyH_take (i := 7) (oi := { dst := some 117, op := Op.move (Operand.tmp 13), type := 3, pos := "law.go:64", after := #[{ on := 5, ground := Ground.guard }], guard := some (5, false) }) (v := .int .i64 (F : Int)) rfl (by kernel_rfl) (by kernel_rfl) (by kernel_rfl) (fun _ _ _ h => h) (Or.inl ⟨by rfl, fun w hSw => by go_simp⟩) (by assumption) ?_
              try simp only [Act.put, List.setIfInBounds_toArray, List.set_cons_zero, List.set_cons_succ]
              refine wpAnyH_take (i := 8) (oi := { dst := some 118, op := Op.indexAddr 30 (Operand.tmp 7) (Operand.tmp 117), type := 0, pos := "law.go:64", after := #[{ on := 7, ground := Ground.data }, { on := 5, ground := Ground.guard }], guard := some (5, false) }) (v := .pointer (some ⟨bh, F, none⟩)) rfl (by kernel_rfl) (by kernel_rfl) (by kernel_rfl) (fun _ _ _ h => h) (Or.inl ⟨by rfl, fun w hSw => by go_simp⟩) (by assumption) ?_
              try simp only [Act.put, List.setIfInBounds_toArray, List.set_cons_zero, List.set_cons_succ]
              refine wpAnyH_take (i := 9) (oi := { dst := some 119, op := Op.load 4 (Operand.tmp 118), type := 4, pos := "law.go:64", after := #[{ on := 8, ground := Ground.data }, { on := 5, ground := Ground.guard }], guard := some (5, false) }) (v := .bool true) rfl (by kernel_rfl) (by kernel_rfl) (by kernel_rfl) (fun _ _ _ h => h) (Or.inl ⟨by rfl, fun w hSw => by obtain ⟨p0, p1, -⟩ := row2 hSw.1; obtain ⟨q0, q1, q2, -, -⟩ := hSw.2.at_ F hlt2; rw [hhk] at q2; rw [← HS1.out.1] at q0; rw [← HS1.out.2] at q1; go_simp⟩) (by assumption) ?_
              try simp only [Act.put, List.setIfInBounds_toArray, List.set_cons_zero, List.set_cons_succ]
              refine wpAnyH_take (i := 10) (oi := { dst := some 120, op := Op.binOp BinOp.neq 4 (Operand.tmp 116) (Operand.tmp 119) 4, type := 4, pos := "law.go:64", after := #[{ on := 6, ground := Ground.data }, { on := 9, ground := Ground.data }, { on := 5, ground := Ground.guard }], guard := some (5, false) }) (v := .bool false) rfl (by kernel_rfl) (by kernel_rfl) (by kernel_rfl) (fun _ _ _ h => h) (Or.inl ⟨by rfl, fun w hSw => by go_simp⟩) (by assumption) ?_
              try simp only [Act.put, List.setIfInBounds_toArray, List.set_cons_zero, List.set_cons_succ]
              refine wpAnyH_take (i := 11) (oi := { dst := some 121, op := Op.pick (Operand.tmp 115) (Operand.const (Value.bool true)) (Operand.tmp 120), type := 4, pos := "law.go:64", after := #[{ on := 5, ground := Ground.data }, { on := 10, ground := Ground.data }], guard := none }) (v := .bool false) rfl (by kernel_rfl) (by kernel_rfl) (by kernel_rfl) (fun _ _ _ h => h) (Or.inl ⟨by rfl, fun w hSw => by go_simp⟩) (by assumption) ?_
              try simp only [Act.put, List.setIfInBounds_toArray, List.set_cons_zero, List.set_cons_succ]
              refine wpAnyH_take (i := 12) (oi := { dst := some 122, op := Op.move (Operand.tmp 121), type := 4, pos := "law.go:64", after := #[{ on := 11, ground := Ground.data }, { on := 5, ground := Ground.chain }], guard := none }) (v := .bool false) rfl (by kernel_rfl) (by kernel_rfl) (by kernel_rfl) (fun _ _ _ h => h) (Or.inl ⟨by rfl, fun w hSw => by go_simp⟩) (by assumption) ?_
              try simp only [Act.put, List.setIfInBounds_toArray, List.set_cons_zero, List.set_cons_succ]
              refine wpAnyH_take (i := 13) (oi := { dst := some 123, op := Op.move (Operand.tmp 15), type := 4, pos := "law.go:64", after := #[{ on := 12, ground := Ground.guard }], guard := some (12, false) }) (v := .bool true) rfl (by kernel_rfl) (by kernel_rfl) (by kernel_rfl) (fun _ _ _ h => h) (Or.inl ⟨by rfl, fun w hSw => by go_simp⟩) (by assumption) ?_
              try simp only [Act.put, List.setIfInBounds_toArray, List.set_cons_zero, List.set_cons_succ]
              refine wpAnyH_take (i := 14) (oi := { dst := some 124, op := Op.move (Operand.tmp 123), type := 4, pos := "law.go:64", after := #[{ on := 13, ground := Ground.data }, { on := 12, ground := Ground.chain }, { on := 12, ground := Ground.guard }], guard := some (12, false) }) (v := .bool true) rfl (by kernel_rfl) (by kernel_rfl) (by kernel_rfl) (fun _ _ _ h => h) (Or.inl ⟨by rfl, fun w hSw => by go_simp⟩) (by assumption) ?_
              try simp only [Act.put, List.setIfInBounds_toArray, List.set_cons_zero, List.set_cons_succ]
              refine wpAnyH_take (i := 15) (oi := { dst := some 125, op := Op.load 28 (Operand.tmp 14), type := 28, pos := "law.go:64", after := #[{ on := 14, ground := Ground.guard }], guard := some (14, true) }) (v := .agg #[.int .u16 (x1 : Int), .int .u16 (x2 : Int)]) rfl (by kernel_rfl) (by kernel_rfl) (by kernel_rfl) (fun _ _ _ h => h) (Or.inl ⟨by rfl, fun w hSw => by obtain ⟨p0, p1, -⟩ := row2 hSw.1; obtain ⟨q0, q1, q2, -, -⟩ := hSw.2.at_ F hlt2; rw [hhk] at q2; rw [← HS1.out.1] at q0; rw [← HS1.out.2] at q1; go_simp⟩) (by assumption) ?_
              try simp only [Act.put, List.setIfInBounds_toArray, List.set_cons_zero, List.set_cons_succ]
              refine wpAnyH_take (i := 16) (oi := { dst := some 126, op := Op.move (Operand.tmp 13), type := 3, pos := "law.go:64", after := #[{ on := 14, ground := Ground.guard }], guard := some (14, true) }) (v := .int .i64 (F : Int)) rfl (by kernel_rfl) (by kernel_rfl) (by kernel_rfl) (fun _ _ _ h => h) (Or.inl ⟨by rfl, fun w hSw => by go_simp⟩) (by assumption) ?_
              try simp only [Act.put, List.setIfInBounds_toArray, List.set_cons_zero, List.set_cons_succ]
              refine wpAnyH_take (i := 17) (oi := { dst := some 127, op := Op.indexAddr 29 (Operand.tmp 6) (Operand.tmp 126), type := 0, pos := "law.go:64", after := #[{ on := 16, ground := Ground.data }, { on := 14, ground := Ground.guard }], guard := some (14, true) }) (v := .pointer (some ⟨bm, F * 2, none⟩)) rfl (by kernel_rfl) (by kernel_rfl) (by kernel_rfl) (fun _ _ _ h => h) (Or.inl ⟨by rfl, fun w hSw => by go_simp⟩) (by assumption) ?_
              try simp only [Act.put, List.setIfInBounds_toArray, List.set_cons_zero, List.set_cons_succ]
              refine wpAnyH_take (i := 18) (oi := { dst := some 128, op := Op.load 28 (Operand.tmp 127), type := 28, pos := "law.go:64", after := #[{ on := 17, ground := Ground.data }, { on := 14, ground := Ground.guard }], guard := some (14, true) }) (v := .agg #[.int .u16 (x1 : Int), .int .u16 (x2 : Int)]) rfl (by kernel_rfl) (by kernel_rfl) (by kernel_rfl) (fun _ _ _ h => h) (Or.inl ⟨by rfl, fun w hSw => by obtain ⟨p0, p1, -⟩ := row2 hSw.1; obtain ⟨q0, q1, q2, -, -⟩ := hSw.2.at_ F hlt2; rw [hhk] at q2; rw [← HS1.out.1] at q0; rw [← HS1.out.2] at q1; go_simp⟩) (by assumption) ?_
              try simp only [Act.put, List.setIfInBounds_toArray, List.set_cons_zero, List.set_cons_succ]
              refine wpAnyH_take (i := 19) (oi := { dst := some 129, op := Op.binOp BinOp.neq 28 (Operand.tmp 125) (Operand.tmp 128) 28, type := 4, pos := "law.go:64", after := #[{ on := 15, ground := Ground.data }, { on := 18, ground := Ground.data }, { on := 14, ground := Ground.guard }], guard := some (14, true) }) (v := .bool false) rfl (by kernel_rfl) (by kernel_rfl) (by kernel_rfl) (fun _ _ _ h => h) (Or.inl ⟨by rfl, fun w hSw => by go_simp⟩) (by assumption) ?_
              try simp only [Act.put, List.setIfInBounds_toArray, List.set_cons_zero, List.set_cons_succ]
              refine wpAnyH_take (i := 20) (oi := { dst := some 130, op := Op.move (Operand.tmp 129), type := 4, pos := "law.go:64", after := #[{ on := 19, ground := Ground.data }, { on := 14, ground := Ground.chain }, { on := 14, ground := Ground.guard }], guard := some (14, true) }) (v := .bool false) rfl (by kernel_rfl) (by kernel_rfl) (by kernel_rfl) (fun _ _ _ h => h) (Or.inl ⟨by rfl, fun w hSw => by go_simp⟩) (by assumption) ?_
              try simp only [Act.put, List.setIfInBounds_toArray, List.set_cons_zero, List.set_cons_succ]
              refine wpAnyH_take (i := 21) (oi := { dst := some 131, op := Op.move (Operand.tmp 16), type := 26, pos := "law.go:64", after := #[{ on := 20, ground := Ground.guard }], guard := some (20, false) }) (v := .int .u16 (((x1 : Int) + 1) % 65536)) rfl (by kernel_rfl) (by kernel_rfl) (by kernel_rfl) (fun _ _ _ h => h) (Or.inl ⟨by rfl, fun w hSw => by go_simp⟩) (by assumption) ?_
              try simp only [Act.put, List.setIfInBounds_toArray, List.set_cons_zero, List.set_cons_succ]
              refine wpAnyH_take (i := 22) (oi := { dst := some 132, op := Op.move (Operand.tmp 13), type := 3, pos := "law.go:64", after := #[{ on := 20, ground := Ground.guard }], guard := some (20, false) }) (v := .int .i64 (F : Int)) rfl (by kernel_rfl) (by kernel_rfl) (by kernel_rfl) (fun _ _ _ h => h) (Or.inl ⟨by rfl, fun w hSw => by go_simp⟩) (by assumption) ?_
              try simp only [Act.put, List.setIfInBounds_toArray, List.set_cons_zero, List.set_cons_succ]
              refine wpAnyH_take (i := 23) (oi := { dst := some 133, op := Op.indexAddr 29 (Operand.tmp 6) (Operand.tmp 132), type := 0, pos := "law.go:64", after := #[{ on := 22, ground := Ground.data }, { on := 20, ground := Ground.guard }], guard := some (20, false) }) (v := .pointer (some ⟨bm, F * 2, none⟩)) rfl (by kernel_rfl) (by kernel_rfl) (by kernel_rfl) (fun _ _ _ h => h) (Or.inl ⟨by rfl, fun w hSw => by go_simp⟩) (by assumption) ?_
              try simp only [Act.put, List.setIfInBounds_toArray, List.set_cons_zero, List.set_cons_succ]
              refine wpAnyH_take (i := 24) (oi := { dst := some 134, op := Op.fieldAddr 28 (Operand.tmp 133) 0, type := 0, pos := "law.go:64", after := #[{ on := 23, ground := Ground.data }, { on := 20, ground := Ground.guard }], guard := some (20, false) }) (v := .pointer (some ⟨bm, F * 2, none⟩)) rfl (by kernel_rfl) (by kernel_rfl) (by kernel_rfl) (fun _ _ _ h => h) (Or.inl ⟨by rfl, fun w hSw => by go_simp⟩) (by assumption) ?_
              try simp only [Act.put, List.setIfInBounds_toArray, List.set_cons_zero, List.set_cons_succ]
              refine wpAnyH_take (i := 25) (oi := { dst := some 135, op := Op.load 26 (Operand.tmp 134), type := 26, pos := "law.go:64", after := #[{ on := 24, ground := Ground.data }, { on := 20, ground := Ground.guard }], guard := some (20, false) }) (v := .int .u16 (x1 : Int)) rfl (by kernel_rfl) (by kernel_rfl) (by kernel_rfl) (fun _ _ _ h => h) (Or.inl ⟨by rfl, fun w hSw => by obtain ⟨p0, p1, -⟩ := row2 hSw.1; obtain ⟨q0, q1, q2, -, -⟩ := hSw.2.at_ F hlt2; rw [hhk] at q2; rw [← HS1.out.1] at q0; rw [← HS1.out.2] at q1; go_simp⟩) (by assumption) ?_
              try simp only [Act.put, List.setIfInBounds_toArray, List.set_cons_zero, List.set_cons_succ]
              refine wpAnyH_take (i := 26) (oi := { dst := some 136, op := Op.binOp BinOp.add 26 (Operand.tmp 135) (Operand.const (Value.int IntKind.u16 1)) 26, type := 26, pos := "law.go:64", after := #[{ on := 25, ground := Ground.data }, { on := 20, ground := Ground.guard }], guard := some (20, false) }) (v := .int .u16 (((x1 : Int) + 1) % 65536)) rfl (by kernel_rfl) (by kernel_rfl) (by kernel_rfl) (fun _ _ _ h => h) (Or.inl ⟨by rfl, fun w hSw => by have hw16 := IntKind.wrap_u16 ((x1 : Int) + 1); go_simp⟩) (by assumption) ?_
              try simp only [Act.put, List.setIfInBounds_toArray, List.set_cons_zero, List.set_cons_succ]
              refine wpAnyH_take (i := 27) (oi := { dst := some 137, op := Op.binOp BinOp.neq 26 (Operand.tmp 131) (Operand.tmp 136) 26, type := 4, pos := "law.go:64", after := #[{ on := 21, ground := Ground.data }, { on := 26, ground := Ground.data }, { on := 20, ground := Ground.guard }], guard := some (20, false) }) (v := .bool false) rfl (by kernel_rfl) (by kernel_rfl) (by kernel_rfl) (fun _ _ _ h => h) (Or.inl ⟨by rfl, fun w hSw => by go_simp⟩) (by assumption) ?_
              try simp only [Act.put, List.setIfInBounds_toArray, List.set_cons_zero, List.set_cons_succ]
              refine wpAnyH_take (i := 28) (oi := { dst := some 138, op := Op.pick (Operand.tmp 130) (Operand.const (Value.bool true)) (Operand.tmp 137), type := 4, pos := "law.go:64", after := #[{ on := 20, ground := Ground.data }, { on := 27, ground := Ground.data }, { on := 14, ground := Ground.guard }], guard := some (14, true) }) (v := .bool false) rfl (by kernel_rfl) (by kernel_rfl) (by kernel_rfl) (fun _ _ _ h => h) (Or.inl ⟨by rfl, fun w hSw => by go_simp⟩) (by assumption) ?_
              try simp only [Act.put, List.setIfInBounds_toArray, List.set_cons_zero, List.set_cons_succ]
              refine wpAnyH_take (i := 29) (oi := { dst := some 139, op := Op.pick (Operand.tmp 124) (Operand.tmp 138) (Operand.const (Value.bool false)), type := 4, pos := "law.go:64", after := #[{ on := 14, ground := Ground.data }, { on := 28, ground := Ground.data }, { on := 12, ground := Ground.guard }], guard := some (12, false) }) (v := .bool false) rfl (by kernel_rfl) (by kernel_rfl) (by kernel_rfl) (fun _ _ _ h => h) (Or.inl ⟨by rfl, fun w hSw => by go_simp⟩) (by assumption) ?_
              try simp only [Act.put, List.setIfInBounds_toArray, List.set_cons_zero, List.set_cons_succ]
              refine wpAnyH_take (i := 30) (oi := { dst := some 140, op := Op.pick (Operand.tmp 122) (Operand.const (Value.bool true)) (Operand.tmp 139), type := 4, pos := "law.go:64", after := #[{ on := 12, ground := Ground.data }, { on := 29, ground := Ground.data }], guard := none }) (v := .bool false) rfl (by kernel_rfl) (by kernel_rfl) (by kernel_rfl) (fun _ _ _ h => h) (Or.inl ⟨by rfl, fun w hSw => by go_simp⟩) (by assumption) ?_
              try simp only [Act.put, List.setIfInBounds_toArray, List.set_cons_zero, List.set_cons_succ]
              refine wpAnyH_done (by kernel_rfl) ?_ _
              try unfold NoPanic
              clear hHeld
              go_wp2
              go_roundw
              case rel => exact ⟨F + 1, by omega, by go_num, HDR.out⟩
              case measure => simp [intOf]; omega
          · have hne : ¬ (F : Int) = k := by omega
            clear ha hn hF hFk
            go_wp2_with (first
              | (go_at_call 9; (with_reducible refine (CK.out _).mono ?_); rintro e w3 ⟨rfl, B3⟩; have H3 := Lib.hid B3; clear B3)
              | (go_at_call 8; (with_reducible refine (CF.out _).mono ?_); rintro e w4 ⟨rfl, B4⟩; have H4 := Lib.hid (HP.out.step (H3.out.trans (B4.mono H3.out.size))); clear B4))
            go_roundw
            case rel => exact ⟨k + 1, by omega, by go_num, H4.out⟩
            case measure => simp [intOf]; omega
        · have hge' : ¬ (k : Int) < 18 := by omega
          clear HR hge2 hk
          go_wp2
          clear hge'
          go_loopw [18] (fun v18 wk => ∃ j : Nat, j ≤ len1 ∧ v18 = .int .i64 j ∧ Hid (PX w wk q bm bh f c g h)) (fun v18 _ => len1 - (intOf v18).toNat)
          case atStart => exact ⟨0, Nat.zero_le _, rfl, HP.out⟩
          case round =>
            obtain ⟨j, hj, rfl, HQ⟩ := hrel
            clear HP
            rcases Nat.lt_or_ge j len1 with hlt3 | hge3
            · have hlt' : (j : Int) < len1 := by omega
              obtain ⟨d, b, o, rfl, hA⟩ := HY.out.at' HQ.out.b j hlt3
              obtain ⟨D0, D1, D2⟩ := d
              obtain ⟨k0, k1, k2, hD0, hD1, hD2⟩ := hA
              simp only at k0 k1 k2 hD0 hD1 hD2
              have hbl : b < wr.heap.size := block_lt_of_cell k0
              have HAC := Lib.hid (And.intro hbl (And.intro k0 (And.intro k1 k2)))
              obtain ⟨a, ha⟩ : ∃ a, a = pA D0 := ⟨_, rfl⟩
              obtain ⟨n, hn⟩ : ∃ n, n = pN D0 := ⟨_, rfl⟩
              obtain ⟨k, hk⟩ : ∃ k, k = fk D0 := ⟨_, rfl⟩
              obtain ⟨Y, hY⟩ : ∃ Y, Y = (D1 % 9 + 65532) % 65536 := ⟨_, rfl⟩
              have HK : Hid (k < 18 ∧ pA k = a ∧ pN k = n ∧ fk k = k ∧ a < 4294967296 ∧ n < 256 ∧ Pre.right a n = true ∧ Y < 65536) := Lib.hid ⟨hk ▸ fk_lt D0, by rw [hk, ha, fk_A], by rw [hk, hn, fk_N], by rw [hk, fk_fk], by rw [ha]; exact pA_lt D0, by rw [hn]; have := pN_le D0; omega, by rw [ha, hn]; exact p_right D0, by rw [hY]; omega⟩
              have CD : Hid (∀ W, Calls Try.prog 9 #[.int .u8 D0] W fun e w' => e = .returned (.agg #[.int .u32 (a : Int), .int .u8 (n : Int)]) ∧ Below W.heap.size W w') := Lib.hid fun W => by rw [ha, hn]; exact prefix_n D0 hD0 W
              have CF : Hid (∀ W, Calls Try.prog 8 #[.agg #[.int .u32 (a : Int), .int .u8 (n : Int)]] W fun e w' => e = .returned (.int .i64 (k : Int)) ∧ Below W.heap.size W w') := Lib.hid fun W => by rw [ha, hn, hk]; exact first_n D0 W
              have CK : Hid (∀ W, Calls Try.prog 9 #[.int .u8 k] W fun e w' => e = .returned (.agg #[.int .u32 (a : Int), .int .u8 (n : Int)]) ∧ Below W.heap.size W w') := Lib.hid fun W => by
                rw [← HK.out.2.1, ← HK.out.2.2.1]; exact prefix_n k (by have := HK.out.1; omega) W
              have CM : Hid (∀ W, Calls Try.prog 10 #[.agg #[.int .u8 (D0 : Int), .int .u8 (D1 : Int), .int .u16 (D2 : Int)]] W fun e w' => e = .returned (.agg #[.int .u16 (Y : Int), .int .u16 (D2 : Int)]) ∧ Below W.heap.size W w') := Lib.hid fun W => hY ▸ mark_any D0 D1 D2 hD1 W
              clear ha hn hk hY
              go_upto_region 36 with (first
                | (go_at_call 9; (with_reducible refine (CD.out _).mono ?_); rintro e w3 ⟨rfl, B3⟩; have H3 := Lib.hid B3; clear B3)
                | (go_at_call 8; (with_reducible refine (CF.out _).mono ?_); rintro e w4 ⟨rfl, B4⟩; have H4 := Lib.hid (H3.out.trans (B4.mono H3.out.size)); clear B4 k0 k1 k2; have k0 := (H4.out.cell (p := ⟨b, o + j * 3, none⟩) HAC.out.1).trans HAC.out.2.1; have k1 := (H4.out.cell (p := ⟨b, o + j * 3 + 1, none⟩) HAC.out.1).trans HAC.out.2.2.1; have k2 := (H4.out.cell (p := ⟨b, o + j * 3 + 2, none⟩) HAC.out.1).trans HAC.out.2.2.2)
                | (go_at_call 10; (with_reducible refine (CM.out _).mono ?_); rintro e w5 ⟨rfl, B5⟩; have H5 := Lib.hid (H4.out.trans (B5.mono H4.out.size)); clear B5 k0 k1 k2))
              have HW := Lib.hid (And.intro ((HQ.out.step H5.out).step ((Below.refl _ _).alloc (Nat.le_refl _) (.cells #[.int .u16 (Y : Int), .int .u16 (D2 : Int)] 28))) (heap_alloc_new w5 (.cells #[.int .u16 (Y : Int), .int .u16 (D2 : Int)] 28)))
              obtain ⟨fe, hfe⟩ : ∃ fe, fe = f.feas a n (Y, D2) := ⟨_, rfl⟩
              obtain ⟨s1, hs1⟩ : ∃ s1, s1 = (g k).1 := ⟨_, rfl⟩
              obtain ⟨s2, hs2⟩ : ∃ s2, s2 = (g k).2 := ⟨_, rfl⟩
              have CQ : Hid (∀ W, PX w W q bm bh f c g h → Calls Try.prog 15 #[.pointer (some ⟨q, 0, none⟩), .agg #[.int .u32 (a : Int), .int .u8 (n : Int)], .agg #[.int .u16 (Y : Int), .int .u16 (D2 : Int)]] W fun e w' => e = .returned (.bool fe) ∧ Below W.heap.size W w') := Lib.hid fun W hW => hfe ▸ feas_any W q f c hW.s a n HK.out.2.2.2.2.1 HK.out.2.2.2.2.2.1 (Y, D2)
              have hagk := HR0.out.2 k HK.out.1 HK.out.2.2.2.1
              rw [HK.out.2.1, HK.out.2.2.1] at hagk
              have CN : Hid (∀ W, Calls Try.prog 16 #[.agg #[.int .u16 (Y : Int), .int .u16 (D2 : Int)], .agg #[.int .u16 (s1 : Int), .int .u16 (s2 : Int)]] W fun e w' => e = .returned (.bool (nearer (Y : Int) (D2 : Int) (s1 : Int) (s2 : Int))) ∧ Below W.heap.size W w') := Lib.hid fun W => by
                have h1 := HQ.out.bd k
                have h2 := HK.out.2.2.2.2.2.2.2
                rw [← hs1] at h1
                exact rnearer_any _ _ _ _ (by omega) (by omega) W
              have HFE := Lib.hid (And.intro hfe (And.intro hagk (And.intro hs1 hs2)))
              clear H5 H4 H3 CD CF CM HAC hbl hfe hagk hs1 hs2
              generalize w5.alloc (.cells #[.int .u16 (Y : Int), .int .u16 (D2 : Int)] 28) = W1 at *
              generalize w5.heap.size = z at *
              have hwk : IntKind.u8.wrap (k : Int) = k := by rw [IntKind.wrap_u8]; have := HK.out.1; omega
              have hk18i : ¬ (18 : Int) ≤ (k : Int) := by have := HK.out.1; omega
              by_cases h5 : D2 = 65535
              · have e5 : ((D2 : Int) == 65535) = true := by simp; omega
                have hfe : fe = true := by rw [HFE.out.1]; unfold Mk.feas; simp [h5]
                subst hfe
                clear h5
                have HDR := Lib.hid (HW.out.1.step (Below.refl _ _).drew)
                refine wp_region_noPanic ?_
                refine wp_region_held_drew (S := fun x : World => x.heap[z]? = some (.cells #[.int .u16 (Y : Int), .int .u16 (D2 : Int)] 28 (0, 0)) ∧ PX w x q bm bh f c g h) (by kernel_rfl) ⟨HW.out.2, HW.out.1.step (Below.refl _ _).drew⟩ (fun hHeld => ?_)
                generalize W1.drew = wd at *
                refine wpAnyH_take (i := 0) (oi := { dst := some 159, op := Op.move (Operand.tmp 5), type := 24, pos := "law.go:71", after := #[], guard := none }) (v := .pointer (some ⟨q, 0, none⟩)) rfl (by kernel_rfl) (by kernel_rfl) (by kernel_rfl) (fun _ _ _ h => h) (Or.inl ⟨by rfl, fun w hSw => by go_simp⟩) (by assumption) ?_
                try simp only [Act.put, List.setIfInBounds_toArray, List.set_cons_zero, List.set_cons_succ]
                refine wpAnyH_take (i := 1) (oi := { dst := some 160, op := Op.move (Operand.tmp 19), type := 3, pos := "law.go:71", after := #[], guard := none }) (v := .int .i64 (k : Int)) rfl (by kernel_rfl) (by kernel_rfl) (by kernel_rfl) (fun _ _ _ h => h) (Or.inl ⟨by rfl, fun w hSw => by go_simp⟩) (by assumption) ?_
                try simp only [Act.put, List.setIfInBounds_toArray, List.set_cons_zero, List.set_cons_succ]
                refine wpAnyH_take (i := 2) (oi := { dst := some 161, op := Op.convert 3 5 (Operand.tmp 160), type := 5, pos := "law.go:71", after := #[{ on := 1, ground := Ground.data }], guard := none }) (v := .int .u8 (k : Int)) rfl (by kernel_rfl) (by kernel_rfl) (by kernel_rfl) (fun _ _ _ h => h) (Or.inl ⟨by rfl, fun w hSw => by go_simp⟩) (by assumption) ?_
                try simp only [Act.put, List.setIfInBounds_toArray, List.set_cons_zero, List.set_cons_succ]
                refine wpAnyH_take (i := 4) (oi := { dst := some 163, op := Op.load 28 (Operand.tmp 20), type := 28, pos := "law.go:71", after := #[], guard := none }) (v := .agg #[.int .u16 (Y : Int), .int .u16 (D2 : Int)]) rfl (by kernel_rfl) (by kernel_rfl) (by kernel_rfl) (fun _ _ _ h => h) (Or.inl ⟨by rfl, fun w hSw => by obtain ⟨p0, p1, -⟩ := row2 hSw.1; go_simp⟩) (by assumption) ?_
                try simp only [Act.put, List.setIfInBounds_toArray, List.set_cons_zero, List.set_cons_succ]
                refine wpAnyH_take (i := 6) (oi := { dst := some 165, op := Op.fieldAddr 28 (Operand.tmp 20) 1, type := 0, pos := "law.go:71", after := #[], guard := none }) (v := .pointer (some ⟨z, 1, none⟩)) rfl (by kernel_rfl) (by kernel_rfl) (by kernel_rfl) (fun _ _ _ h => h) (Or.inl ⟨by rfl, fun w hSw => by go_simp⟩) (by assumption) ?_
                try simp only [Act.put, List.setIfInBounds_toArray, List.set_cons_zero, List.set_cons_succ]
                refine wpAnyH_take (i := 7) (oi := { dst := some 166, op := Op.load 26 (Operand.tmp 165), type := 26, pos := "law.go:71", after := #[{ on := 6, ground := Ground.data }], guard := none }) (v := .int .u16 (D2 : Int)) rfl (by kernel_rfl) (by kernel_rfl) (by kernel_rfl) (fun _ _ _ h => h) (Or.inl ⟨by rfl, fun w hSw => by obtain ⟨p0, p1, -⟩ := row2 hSw.1; go_simp⟩) (by assumption) ?_
                try simp only [Act.put, List.setIfInBounds_toArray, List.set_cons_zero, List.set_cons_succ]
                refine wpAnyH_take (i := 8) (oi := { dst := some 167, op := Op.binOp BinOp.eql 26 (Operand.tmp 166) (Operand.const (Value.int IntKind.u16 65535)) 26, type := 4, pos := "law.go:71", after := #[{ on := 7, ground := Ground.data }], guard := none }) (v := .bool true) rfl (by kernel_rfl) (by kernel_rfl) (by kernel_rfl) (fun _ _ _ h => h) (Or.inl ⟨by rfl, fun w hSw => by go_simp⟩) (by assumption) ?_
                try simp only [Act.put, List.setIfInBounds_toArray, List.set_cons_zero, List.set_cons_succ]
                refine wpAnyH_ready (rs := [3]) (by kernel_rfl) (by simp) ?_
                refine AllReadyH.cons (o := { dst := some 162, op := Op.call { callee := Callee.value (Operand.func 9), args := #[Operand.tmp 161], argTypes := #[5] }, type := 34, pos := "law.go:71", after := #[{ on := 2, ground := Ground.data }], guard := none }) rfl (fun K hK => ?_) AllReadyH.nil
                go_simp
                with_reducible refine (CK.out _).mono ?_
                rintro e w6 ⟨rfl, Bx⟩
                refine hK.out _ _ (⟨(Bx.block _ (Array.getElem?_eq_some_iff.1 hHeld.1).1).trans hHeld.1, hHeld.2.step Bx⟩) (fun hHeld2 => ?_)
                clear hK K hHeld Bx
                have hHeld := hHeld2
                clear hHeld2
                try simp only [Act.put, List.setIfInBounds_toArray, List.set_cons_zero, List.set_cons_succ]
                refine wpAnyH_ready (rs := [5]) (by kernel_rfl) (by simp) ?_
                refine AllReadyH.cons (o := { dst := some 164, op := Op.call { callee := Callee.value (Operand.func 15), args := #[Operand.tmp 159, Operand.tmp 162, Operand.tmp 163], argTypes := #[24, 34, 28] }, type := 4, pos := "law.go:71", after := #[{ on := 0, ground := Ground.data }, { on := 3, ground := Ground.data }, { on := 4, ground := Ground.data }, { on := 3, ground := Ground.chain }], guard := none }) rfl (fun K hK => ?_) AllReadyH.nil
                go_simp
                with_reducible refine (CQ.out _ hHeld.2).mono ?_
                rintro e w8 ⟨rfl, Bx⟩
                refine hK.out _ _ (⟨(Bx.block _ (Array.getElem?_eq_some_iff.1 hHeld.1).1).trans hHeld.1, hHeld.2.step Bx⟩) (fun hHeld2 => ?_)
                clear hK K hHeld Bx
                have hHeld := hHeld2
                clear hHeld2
                try simp only [Act.put, List.setIfInBounds_toArray, List.set_cons_zero, List.set_cons_succ]
                refine wpAnyH_take (i := 9) (oi := { dst := some 168, op := Op.move (Operand.tmp 167), type := 4, pos := "law.go:71", after := #[{ on := 8, ground := Ground.data }, { on := 5, ground := Ground.chain }], guard := none }) (v := .bool true) rfl (by kernel_rfl) (by kernel_rfl) (by kernel_rfl) (fun _ _ _ h => h) (Or.inl ⟨by rfl, fun w hSw => by go_simp⟩) (by assumption) ?_
                try simp only [Act.put, List.setIfInBounds_toArray, List.set_cons_zero, List.set_cons_succ]
                refine wpAnyH_take (i := 10) (oi := { dst := some 169, op := Op.move (Operand.tmp 19), type := 3, pos := "law.go:71", after := #[{ on := 9, ground := Ground.guard }], guard := some (9, false) }) (v := undef) rfl (by kernel_rfl) (by kernel_rfl) (by kernel_rfl) (fun _ _ _ h => h) (Or.inr ⟨by rfl, rfl⟩) (by assumption) ?_
                try simp only [Act.put, List.setIfInBounds_toArray, List.set_cons_zero, List.set_cons_succ]
                refine wpAnyH_take (i := 11) (oi := { dst := some 170, op := Op.indexAddr 30 (Operand.tmp 7) (Operand.tmp 169), type := 0, pos := "law.go:71", after := #[{ on := 10, ground := Ground.data }, { on := 9, ground := Ground.guard }], guard := some (9, false) }) (v := undef) rfl (by kernel_rfl) (by kernel_rfl) (by kernel_rfl) (fun _ _ _ h => h) (Or.inr ⟨by rfl, rfl⟩) (by assumption) ?_
                try simp only [Act.put, List.setIfInBounds_toArray, List.set_cons_zero, List.set_cons_succ]
                refine wpAnyH_take (i := 12) (oi := { dst := some 171, op := Op.load 4 (Operand.tmp 170), type := 4, pos := "law.go:71", after := #[{ on := 11, ground := Ground.data }, { on := 9, ground := Ground.guard }], guard := some (9, false) }) (v := undef) rfl (by kernel_rfl) (by kernel_rfl) (by kernel_rfl) (fun _ _ _ h => h) (Or.inr ⟨by rfl, rfl⟩) (by assumption) ?_
                try simp only [Act.put, List.setIfInBounds_toArray, List.set_cons_zero, List.set_cons_succ]
                refine wpAnyH_take (i := 13) (oi := { dst := some 172, op := Op.unOp UnOp.not 4 (Operand.tmp 171), type := 4, pos := "law.go:71", after := #[{ on := 12, ground := Ground.data }, { on := 9, ground := Ground.guard }], guard := some (9, false) }) (v := undef) rfl (by kernel_rfl) (by kernel_rfl) (by kernel_rfl) (fun _ _ _ h => h) (Or.inr ⟨by rfl, rfl⟩) (by assumption) ?_
                try simp only [Act.put, List.setIfInBounds_toArray, List.set_cons_zero, List.set_cons_succ]
                refine wpAnyH_take (i := 14) (oi := { dst := some 173, op := Op.pick (Operand.tmp 168) (Operand.const (Value.bool true)) (Operand.tmp 172), type := 4, pos := "law.go:71", after := #[{ on := 9, ground := Ground.data }, { on := 13, ground := Ground.data }], guard := none }) (v := .bool true) rfl (by kernel_rfl) (by kernel_rfl) (by kernel_rfl) (fun _ _ _ h => h) (Or.inl ⟨by rfl, fun w hSw => by go_simp⟩) (by assumption) ?_
                try simp only [Act.put, List.setIfInBounds_toArray, List.set_cons_zero, List.set_cons_succ]
                refine wpAnyH_take (i := 15) (oi := { dst := some 174, op := Op.move (Operand.tmp 173), type := 4, pos := "law.go:71", after := #[{ on := 14, ground := Ground.data }, { on := 9, ground := Ground.chain }], guard := none }) (v := .bool true) rfl (by kernel_rfl) (by kernel_rfl) (by kernel_rfl) (fun _ _ _ h => h) (Or.inl ⟨by rfl, fun w hSw => by go_simp⟩) (by assumption) ?_
                try simp only [Act.put, List.setIfInBounds_toArray, List.set_cons_zero, List.set_cons_succ]
                refine wpAnyH_take (i := 16) (oi := { dst := some 175, op := Op.load 28 (Operand.tmp 20), type := 28, pos := "law.go:71", after := #[{ on := 15, ground := Ground.guard }], guard := some (15, false) }) (v := undef) rfl (by kernel_rfl) (by kernel_rfl) (by kernel_rfl) (fun _ _ _ h => h) (Or.inr ⟨by rfl, rfl⟩) (by assumption) ?_
                try simp only [Act.put, List.setIfInBounds_toArray, List.set_cons_zero, List.set_cons_succ]
                refine wpAnyH_take (i := 17) (oi := { dst := some 176, op := Op.move (Operand.tmp 19), type := 3, pos := "law.go:71", after := #[{ on := 15, ground := Ground.guard }], guard := some (15, false) }) (v := undef) rfl (by kernel_rfl) (by kernel_rfl) (by kernel_rfl) (fun _ _ _ h => h) (Or.inr ⟨by rfl, rfl⟩) (by assumption) ?_
                try simp only [Act.put, List.setIfInBounds_toArray, List.set_cons_zero, List.set_cons_succ]
                refine wpAnyH_take (i := 18) (oi := { dst := some 177, op := Op.indexAddr 29 (Operand.tmp 6) (Operand.tmp 176), type := 0, pos := "law.go:71", after := #[{ on := 17, ground := Ground.data }, { on := 15, ground := Ground.guard }], guard := some (15, false) }) (v := undef) rfl (by kernel_rfl) (by kernel_rfl) (by kernel_rfl) (fun _ _ _ h => h) (Or.inr ⟨by rfl, rfl⟩) (by assumption) ?_
                try simp only [Act.put, List.setIfInBounds_toArray, List.set_cons_zero, List.set_cons_succ]
                refine wpAnyH_take (i := 19) (oi := { dst := some 178, op := Op.load 28 (Operand.tmp 177), type := 28, pos := "law.go:71", after := #[{ on := 18, ground := Ground.data }, { on := 15, ground := Ground.guard }], guard := some (15, false) }) (v := undef) rfl (by kernel_rfl) (by kernel_rfl) (by kernel_rfl) (fun _ _ _ h => h) (Or.inr ⟨by rfl, rfl⟩) (by assumption) ?_
                try simp only [Act.put, List.setIfInBounds_toArray, List.set_cons_zero, List.set_cons_succ]
                refine wpAnyH_take (i := 20) (oi := { dst := some 179, op := Op.call { callee := Callee.value (Operand.func 16), args := #[Operand.tmp 175, Operand.tmp 178], argTypes := #[28, 28] }, type := 4, pos := "law.go:71", after := #[{ on := 16, ground := Ground.data }, { on := 19, ground := Ground.data }, { on := 15, ground := Ground.chain }, { on := 15, ground := Ground.guard }], guard := some (15, false) }) (v := undef) rfl (by kernel_rfl) (by kernel_rfl) (by kernel_rfl) (fun _ _ _ h => h) (Or.inr ⟨by rfl, rfl⟩) (by assumption) ?_
                try simp only [Act.put, List.setIfInBounds_toArray, List.set_cons_zero, List.set_cons_succ]
                refine wpAnyH_take (i := 21) (oi := { dst := some 180, op := Op.pick (Operand.tmp 174) (Operand.const (Value.bool true)) (Operand.tmp 179), type := 4, pos := "law.go:71", after := #[{ on := 15, ground := Ground.data }, { on := 20, ground := Ground.data }], guard := none }) (v := .bool true) rfl (by kernel_rfl) (by kernel_rfl) (by kernel_rfl) (fun _ _ _ h => h) (Or.inl ⟨by rfl, fun w hSw => by go_simp⟩) (by assumption) ?_
                try simp only [Act.put, List.setIfInBounds_toArray, List.set_cons_zero, List.set_cons_succ]
                refine wpAnyH_take (i := 22) (oi := { dst := some 181, op := Op.binOp BinOp.neq 4 (Operand.tmp 164) (Operand.tmp 180) 4, type := 4, pos := "law.go:71", after := #[{ on := 5, ground := Ground.data }, { on := 21, ground := Ground.data }], guard := none }) (v := .bool false) rfl (by kernel_rfl) (by kernel_rfl) (by kernel_rfl) (fun _ _ _ h => h) (Or.inl ⟨by rfl, fun w hSw => by go_simp⟩) (by assumption) ?_
                try simp only [Act.put, List.setIfInBounds_toArray, List.set_cons_zero, List.set_cons_succ]
                refine wpAnyH_done (by kernel_rfl) ?_ _
                try unfold NoPanic
                have HE := Lib.hid hHeld.2
                clear hHeld
                go_wp2
                go_roundw
                case rel => exact ⟨j + 1, by omega, by go_num, HE.out⟩
                case measure => simp [intOf]; omega
              · have e5 : ((D2 : Int) == 65535) = false := by simp; omega
                cases hhk : h k with
                | false =>
                  have hfe : fe = true := by have := HFE.out.2.1; rw [hhk] at this; rw [HFE.out.1]; unfold Mk.feas; simp [this]
                  subst hfe
                  clear h5
                  have HDR := Lib.hid (HW.out.1.step (Below.refl _ _).drew)
                  refine wp_region_noPanic ?_
                  refine wp_region_held_drew (S := fun x : World => x.heap[z]? = some (.cells #[.int .u16 (Y : Int), .int .u16 (D2 : Int)] 28 (0, 0)) ∧ PX w x q bm bh f c g h) (by kernel_rfl) ⟨HW.out.2, HW.out.1.step (Below.refl _ _).drew⟩ (fun hHeld => ?_)
                  generalize W1.drew = wd at *
                  refine wpAnyH_take (i := 0) (oi := { dst := some 159, op := Op.move (Operand.tmp 5), type := 24, pos := "law.go:71", after := #[], guard := none }) (v := .pointer (some ⟨q, 0, none⟩)) rfl (by kernel_rfl) (by kernel_rfl) (by kernel_rfl) (fun _ _ _ h => h) (Or.inl ⟨by rfl, fun w hSw => by go_simp⟩) (by assumption) ?_
                  try simp only [Act.put, List.setIfInBounds_toArray, List.set_cons_zero, List.set_cons_succ]
                  refine wpAnyH_take (i := 1) (oi := { dst := some 160, op := Op.move (Operand.tmp 19), type := 3, pos := "law.go:71", after := #[], guard := none }) (v := .int .i64 (k : Int)) rfl (by kernel_rfl) (by kernel_rfl) (by kernel_rfl) (fun _ _ _ h => h) (Or.inl ⟨by rfl, fun w hSw => by go_simp⟩) (by assumption) ?_
                  try simp only [Act.put, List.setIfInBounds_toArray, List.set_cons_zero, List.set_cons_succ]
                  refine wpAnyH_take (i := 2) (oi := { dst := some 161, op := Op.convert 3 5 (Operand.tmp 160), type := 5, pos := "law.go:71", after := #[{ on := 1, ground := Ground.data }], guard := none }) (v := .int .u8 (k : Int)) rfl (by kernel_rfl) (by kernel_rfl) (by kernel_rfl) (fun _ _ _ h => h) (Or.inl ⟨by rfl, fun w hSw => by go_simp⟩) (by assumption) ?_
                  try simp only [Act.put, List.setIfInBounds_toArray, List.set_cons_zero, List.set_cons_succ]
                  refine wpAnyH_take (i := 4) (oi := { dst := some 163, op := Op.load 28 (Operand.tmp 20), type := 28, pos := "law.go:71", after := #[], guard := none }) (v := .agg #[.int .u16 (Y : Int), .int .u16 (D2 : Int)]) rfl (by kernel_rfl) (by kernel_rfl) (by kernel_rfl) (fun _ _ _ h => h) (Or.inl ⟨by rfl, fun w hSw => by obtain ⟨p0, p1, -⟩ := row2 hSw.1; obtain ⟨q0, q1, q2, -, -⟩ := hSw.2.at_ k HK.out.1; rw [hhk] at q2; go_simp⟩) (by assumption) ?_
                  try simp only [Act.put, List.setIfInBounds_toArray, List.set_cons_zero, List.set_cons_succ]
                  refine wpAnyH_take (i := 6) (oi := { dst := some 165, op := Op.fieldAddr 28 (Operand.tmp 20) 1, type := 0, pos := "law.go:71", after := #[], guard := none }) (v := .pointer (some ⟨z, 1, none⟩)) rfl (by kernel_rfl) (by kernel_rfl) (by kernel_rfl) (fun _ _ _ h => h) (Or.inl ⟨by rfl, fun w hSw => by go_simp⟩) (by assumption) ?_
                  try simp only [Act.put, List.setIfInBounds_toArray, List.set_cons_zero, List.set_cons_succ]
                  refine wpAnyH_take (i := 7) (oi := { dst := some 166, op := Op.load 26 (Operand.tmp 165), type := 26, pos := "law.go:71", after := #[{ on := 6, ground := Ground.data }], guard := none }) (v := .int .u16 (D2 : Int)) rfl (by kernel_rfl) (by kernel_rfl) (by kernel_rfl) (fun _ _ _ h => h) (Or.inl ⟨by rfl, fun w hSw => by obtain ⟨p0, p1, -⟩ := row2 hSw.1; obtain ⟨q0, q1, q2, -, -⟩ := hSw.2.at_ k HK.out.1; rw [hhk] at q2; go_simp⟩) (by assumption) ?_
                  try simp only [Act.put, List.setIfInBounds_toArray, List.set_cons_zero, List.set_cons_succ]
                  refine wpAnyH_take (i := 8) (oi := { dst := some 167, op := Op.binOp BinOp.eql 26 (Operand.tmp 166) (Operand.const (Value.int IntKind.u16 65535)) 26, type := 4, pos := "law.go:71", after := #[{ on := 7, ground := Ground.data }], guard := none }) (v := .bool false) rfl (by kernel_rfl) (by kernel_rfl) (by kernel_rfl) (fun _ _ _ h => h) (Or.inl ⟨by rfl, fun w hSw => by go_simp⟩) (by assumption) ?_
                  try simp only [Act.put, List.setIfInBounds_toArray, List.set_cons_zero, List.set_cons_succ]
                  refine wpAnyH_ready (rs := [3]) (by kernel_rfl) (by simp) ?_
                  refine AllReadyH.cons (o := { dst := some 162, op := Op.call { callee := Callee.value (Operand.func 9), args := #[Operand.tmp 161], argTypes := #[5] }, type := 34, pos := "law.go:71", after := #[{ on := 2, ground := Ground.data }], guard := none }) rfl (fun K hK => ?_) AllReadyH.nil
                  go_simp
                  with_reducible refine (CK.out _).mono ?_
                  rintro e w6 ⟨rfl, Bx⟩
                  refine hK.out _ _ (⟨(Bx.block _ (Array.getElem?_eq_some_iff.1 hHeld.1).1).trans hHeld.1, hHeld.2.step Bx⟩) (fun hHeld2 => ?_)
                  clear hK K hHeld Bx
                  have hHeld := hHeld2
                  clear hHeld2
                  try simp only [Act.put, List.setIfInBounds_toArray, List.set_cons_zero, List.set_cons_succ]
                  refine wpAnyH_ready (rs := [5]) (by kernel_rfl) (by simp) ?_
                  refine AllReadyH.cons (o := { dst := some 164, op := Op.call { callee := Callee.value (Operand.func 15), args := #[Operand.tmp 159, Operand.tmp 162, Operand.tmp 163], argTypes := #[24, 34, 28] }, type := 4, pos := "law.go:71", after := #[{ on := 0, ground := Ground.data }, { on := 3, ground := Ground.data }, { on := 4, ground := Ground.data }, { on := 3, ground := Ground.chain }], guard := none }) rfl (fun K hK => ?_) AllReadyH.nil
                  go_simp
                  with_reducible refine (CQ.out _ hHeld.2).mono ?_
                  rintro e w8 ⟨rfl, Bx⟩
                  refine hK.out _ _ (⟨(Bx.block _ (Array.getElem?_eq_some_iff.1 hHeld.1).1).trans hHeld.1, hHeld.2.step Bx⟩) (fun hHeld2 => ?_)
                  clear hK K hHeld Bx
                  have hHeld := hHeld2
                  clear hHeld2
                  try simp only [Act.put, List.setIfInBounds_toArray, List.set_cons_zero, List.set_cons_succ]
                  refine wpAnyH_take (i := 9) (oi := { dst := some 168, op := Op.move (Operand.tmp 167), type := 4, pos := "law.go:71", after := #[{ on := 8, ground := Ground.data }, { on := 5, ground := Ground.chain }], guard := none }) (v := .bool false) rfl (by kernel_rfl) (by kernel_rfl) (by kernel_rfl) (fun _ _ _ h => h) (Or.inl ⟨by rfl, fun w hSw => by go_simp⟩) (by assumption) ?_
                  try simp only [Act.put, List.setIfInBounds_toArray, List.set_cons_zero, List.set_cons_succ]
                  refine wpAnyH_take (i := 10) (oi := { dst := some 169, op := Op.move (Operand.tmp 19), type := 3, pos := "law.go:71", after := #[{ on := 9, ground := Ground.guard }], guard := some (9, false) }) (v := .int .i64 (k : Int)) rfl (by kernel_rfl) (by kernel_rfl) (by kernel_rfl) (fun _ _ _ h => h) (Or.inl ⟨by rfl, fun w hSw => by go_simp⟩) (by assumption) ?_
                  try simp only [Act.put, List.setIfInBounds_toArray, List.set_cons_zero, List.set_cons_succ]
                  refine wpAnyH_take (i := 11) (oi := { dst := some 170, op := Op.indexAddr 30 (Operand.tmp 7) (Operand.tmp 169), type := 0, pos := "law.go:71", after := #[{ on := 10, ground := Ground.data }, { on := 9, ground := Ground.guard }], guard := some (9, false) }) (v := .pointer (some ⟨bh, k, none⟩)) rfl (by kernel_rfl) (by kernel_rfl) (by kernel_rfl) (fun _ _ _ h => h) (Or.inl ⟨by rfl, fun w hSw => by go_simp⟩) (by assumption) ?_
                  try simp only [Act.put, List.setIfInBounds_toArray, List.set_cons_zero, List.set_cons_succ]
                  refine wpAnyH_take (i := 12) (oi := { dst := some 171, op := Op.load 4 (Operand.tmp 170), type := 4, pos := "law.go:71", after := #[{ on := 11, ground := Ground.data }, { on := 9, ground := Ground.guard }], guard := some (9, false) }) (v := .bool false) rfl (by kernel_rfl) (by kernel_rfl) (by kernel_rfl) (fun _ _ _ h => h) (Or.inl ⟨by rfl, fun w hSw => by obtain ⟨p0, p1, -⟩ := row2 hSw.1; obtain ⟨q0, q1, q2, -, -⟩ := hSw.2.at_ k HK.out.1; rw [hhk] at q2; go_simp⟩) (by assumption) ?_
                  try simp only [Act.put, List.setIfInBounds_toArray, List.set_cons_zero, List.set_cons_succ]
                  refine wpAnyH_take (i := 13) (oi := { dst := some 172, op := Op.unOp UnOp.not 4 (Operand.tmp 171), type := 4, pos := "law.go:71", after := #[{ on := 12, ground := Ground.data }, { on := 9, ground := Ground.guard }], guard := some (9, false) }) (v := .bool true) rfl (by kernel_rfl) (by kernel_rfl) (by kernel_rfl) (fun _ _ _ h => h) (Or.inl ⟨by rfl, fun w hSw => by go_simp⟩) (by assumption) ?_
                  try simp only [Act.put, List.setIfInBounds_toArray, List.set_cons_zero, List.set_cons_succ]
                  refine wpAnyH_take (i := 14) (oi := { dst := some 173, op := Op.pick (Operand.tmp 168) (Operand.const (Value.bool true)) (Operand.tmp 172), type := 4, pos := "law.go:71", after := #[{ on := 9, ground := Ground.data }, { on := 13, ground := Ground.data }], guard := none }) (v := .bool true) rfl (by kernel_rfl) (by kernel_rfl) (by kernel_rfl) (fun _ _ _ h => h) (Or.inl ⟨by rfl, fun w hSw => by go_simp⟩) (by assumption) ?_
                  try simp only [Act.put, List.setIfInBounds_toArray, List.set_cons_zero, List.set_cons_succ]
                  refine wpAnyH_take (i := 15) (oi := { dst := some 174, op := Op.move (Operand.tmp 173), type := 4, pos := "law.go:71", after := #[{ on := 14, ground := Ground.data }, { on := 9, ground := Ground.chain }], guard := none }) (v := .bool true) rfl (by kernel_rfl) (by kernel_rfl) (by kernel_rfl) (fun _ _ _ h => h) (Or.inl ⟨by rfl, fun w hSw => by go_simp⟩) (by assumption) ?_
                  try simp only [Act.put, List.setIfInBounds_toArray, List.set_cons_zero, List.set_cons_succ]
                  refine wpAnyH_take (i := 16) (oi := { dst := some 175, op := Op.load 28 (Operand.tmp 20), type := 28, pos := "law.go:71", after := #[{ on := 15, ground := Ground.guard }], guard := some (15, false) }) (v := undef) rfl (by kernel_rfl) (by kernel_rfl) (by kernel_rfl) (fun _ _ _ h => h) (Or.inr ⟨by rfl, rfl⟩) (by assumption) ?_
                  try simp only [Act.put, List.setIfInBounds_toArray, List.set_cons_zero, List.set_cons_succ]
                  refine wpAnyH_take (i := 17) (oi := { dst := some 176, op := Op.move (Operand.tmp 19), type := 3, pos := "law.go:71", after := #[{ on := 15, ground := Ground.guard }], guard := some (15, false) }) (v := undef) rfl (by kernel_rfl) (by kernel_rfl) (by kernel_rfl) (fun _ _ _ h => h) (Or.inr ⟨by rfl, rfl⟩) (by assumption) ?_
                  try simp only [Act.put, List.setIfInBounds_toArray, List.set_cons_zero, List.set_cons_succ]
                  refine wpAnyH_take (i := 18) (oi := { dst := some 177, op := Op.indexAddr 29 (Operand.tmp 6) (Operand.tmp 176), type := 0, pos := "law.go:71", after := #[{ on := 17, ground := Ground.data }, { on := 15, ground := Ground.guard }], guard := some (15, false) }) (v := undef) rfl (by kernel_rfl) (by kernel_rfl) (by kernel_rfl) (fun _ _ _ h => h) (Or.inr ⟨by rfl, rfl⟩) (by assumption) ?_
                  try simp only [Act.put, List.setIfInBounds_toArray, List.set_cons_zero, List.set_cons_succ]
                  refine wpAnyH_take (i := 19) (oi := { dst := some 178, op := Op.load 28 (Operand.tmp 177), type := 28, pos := "law.go:71", after := #[{ on := 18, ground := Ground.data }, { on := 15, ground := Ground.guard }], guard := some (15, false) }) (v := undef) rfl (by kernel_rfl) (by kernel_rfl) (by kernel_rfl) (fun _ _ _ h => h) (Or.inr ⟨by rfl, rfl⟩) (by assumption) ?_
                  try simp only [Act.put, List.setIfInBounds_toArray, List.set_cons_zero, List.set_cons_succ]
                  refine wpAnyH_take (i := 20) (oi := { dst := some 179, op := Op.call { callee := Callee.value (Operand.func 16), args := #[Operand.tmp 175, Operand.tmp 178], argTypes := #[28, 28] }, type := 4, pos := "law.go:71", after := #[{ on := 16, ground := Ground.data }, { on := 19, ground := Ground.data }, { on := 15, ground := Ground.chain }, { on := 15, ground := Ground.guard }], guard := some (15, false) }) (v := undef) rfl (by kernel_rfl) (by kernel_rfl) (by kernel_rfl) (fun _ _ _ h => h) (Or.inr ⟨by rfl, rfl⟩) (by assumption) ?_
                  try simp only [Act.put, List.setIfInBounds_toArray, List.set_cons_zero, List.set_cons_succ]
                  refine wpAnyH_take (i := 21) (oi := { dst := some 180, op := Op.pick (Operand.tmp 174) (Operand.const (Value.bool true)) (Operand.tmp 179), type := 4, pos := "law.go:71", after := #[{ on := 15, ground := Ground.data }, { on := 20, ground := Ground.data }], guard := none }) (v := .bool true) rfl (by kernel_rfl) (by kernel_rfl) (by kernel_rfl) (fun _ _ _ h => h) (Or.inl ⟨by rfl, fun w hSw => by go_simp⟩) (by assumption) ?_
                  try simp only [Act.put, List.setIfInBounds_toArray, List.set_cons_zero, List.set_cons_succ]
                  refine wpAnyH_take (i := 22) (oi := { dst := some 181, op := Op.binOp BinOp.neq 4 (Operand.tmp 164) (Operand.tmp 180) 4, type := 4, pos := "law.go:71", after := #[{ on := 5, ground := Ground.data }, { on := 21, ground := Ground.data }], guard := none }) (v := .bool false) rfl (by kernel_rfl) (by kernel_rfl) (by kernel_rfl) (fun _ _ _ h => h) (Or.inl ⟨by rfl, fun w hSw => by go_simp⟩) (by assumption) ?_
                  try simp only [Act.put, List.setIfInBounds_toArray, List.set_cons_zero, List.set_cons_succ]
                  refine wpAnyH_done (by kernel_rfl) ?_ _
                  try unfold NoPanic
                  have HE := Lib.hid hHeld.2
                  clear hHeld
                  go_wp2
                  go_roundw
                  case rel => exact ⟨j + 1, by omega, by go_num, HE.out⟩
                  case measure => simp [intOf]; omega
                | true =>
                  obtain ⟨nr, hnr⟩ : ∃ nr, nr = nearer (Y : Int) (D2 : Int) (s1 : Int) (s2 : Int) := ⟨_, rfl⟩
                  rw [← hnr] at CN
                  have hfe : fe = nr := by have := HFE.out.2.1; rw [hhk] at this; rw [HFE.out.1, hnr, HFE.out.2.2.1, HFE.out.2.2.2]; unfold Mk.feas; simp [this, h5]
                  subst hfe
                  clear h5 hnr
                  have HDR := Lib.hid (HW.out.1.step (Below.refl _ _).drew)
                  refine wp_region_noPanic ?_
                  refine wp_region_held_drew (S := fun x : World => x.heap[z]? = some (.cells #[.int .u16 (Y : Int), .int .u16 (D2 : Int)] 28 (0, 0)) ∧ PX w x q bm bh f c g h) (by kernel_rfl) ⟨HW.out.2, HW.out.1.step (Below.refl _ _).drew⟩ (fun hHeld => ?_)
                  generalize W1.drew = wd at *
                  refine wpAnyH_take (i := 0) (oi := { dst := some 159, op := Op.move (Operand.tmp 5), type := 24, pos := "law.go:71", after := #[], guard := none }) (v := .pointer (some ⟨q, 0, none⟩)) rfl (by kernel_rfl) (by kernel_rfl) (by kernel_rfl) (fun _ _ _ h => h) (Or.inl ⟨by rfl, fun w hSw => by go_simp⟩) (by assumption) ?_
                  try simp only [Act.put, List.setIfInBounds_toArray, List.set_cons_zero, List.set_cons_succ]
                  refine wpAnyH_take (i := 1) (oi := { dst := some 160, op := Op.move (Operand.tmp 19), type := 3, pos := "law.go:71", after := #[], guard := none }) (v := .int .i64 (k : Int)) rfl (by kernel_rfl) (by kernel_rfl) (by kernel_rfl) (fun _ _ _ h => h) (Or.inl ⟨by rfl, fun w hSw => by go_simp⟩) (by assumption) ?_
                  try simp only [Act.put, List.setIfInBounds_toArray, List.set_cons_zero, List.set_cons_succ]
                  refine wpAnyH_take (i := 2) (oi := { dst := some 161, op := Op.convert 3 5 (Operand.tmp 160), type := 5, pos := "law.go:71", after := #[{ on := 1, ground := Ground.data }], guard := none }) (v := .int .u8 (k : Int)) rfl (by kernel_rfl) (by kernel_rfl) (by kernel_rfl) (fun _ _ _ h => h) (Or.inl ⟨by rfl, fun w hSw => by go_simp⟩) (by assumption) ?_
                  try simp only [Act.put, List.setIfInBounds_toArray, List.set_cons_zero, List.set_cons_succ]
                  refine wpAnyH_take (i := 4) (oi := { dst := some 163, op := Op.load 28 (Operand.tmp 20), type := 28, pos := "law.go:71", after := #[], guard := none }) (v := .agg #[.int .u16 (Y : Int), .int .u16 (D2 : Int)]) rfl (by kernel_rfl) (by kernel_rfl) (by kernel_rfl) (fun _ _ _ h => h) (Or.inl ⟨by rfl, fun w hSw => by obtain ⟨p0, p1, -⟩ := row2 hSw.1; obtain ⟨q0, q1, q2, -, -⟩ := hSw.2.at_ k HK.out.1; rw [hhk] at q2; rw [← HFE.out.2.2.1] at q0; rw [← HFE.out.2.2.2] at q1; go_simp⟩) (by assumption) ?_
                  try simp only [Act.put, List.setIfInBounds_toArray, List.set_cons_zero, List.set_cons_succ]
                  refine wpAnyH_take (i := 6) (oi := { dst := some 165, op := Op.fieldAddr 28 (Operand.tmp 20) 1, type := 0, pos := "law.go:71", after := #[], guard := none }) (v := .pointer (some ⟨z, 1, none⟩)) rfl (by kernel_rfl) (by kernel_rfl) (by kernel_rfl) (fun _ _ _ h => h) (Or.inl ⟨by rfl, fun w hSw => by go_simp⟩) (by assumption) ?_
                  try simp only [Act.put, List.setIfInBounds_toArray, List.set_cons_zero, List.set_cons_succ]
                  refine wpAnyH_take (i := 7) (oi := { dst := some 166, op := Op.load 26 (Operand.tmp 165), type := 26, pos := "law.go:71", after := #[{ on := 6, ground := Ground.data }], guard := none }) (v := .int .u16 (D2 : Int)) rfl (by kernel_rfl) (by kernel_rfl) (by kernel_rfl) (fun _ _ _ h => h) (Or.inl ⟨by rfl, fun w hSw => by obtain ⟨p0, p1, -⟩ := row2 hSw.1; obtain ⟨q0, q1, q2, -, -⟩ := hSw.2.at_ k HK.out.1; rw [hhk] at q2; rw [← HFE.out.2.2.1] at q0; rw [← HFE.out.2.2.2] at q1; go_simp⟩) (by assumption) ?_
                  try simp only [Act.put, List.setIfInBounds_toArray, List.set_cons_zero, List.set_cons_succ]
                  refine wpAnyH_take (i := 8) (oi := { dst := some 167, op := Op.binOp BinOp.eql 26 (Operand.tmp 166) (Operand.const (Value.int IntKind.u16 65535)) 26, type := 4, pos := "law.go:71", after := #[{ on := 7, ground := Ground.data }], guard := none }) (v := .bool false) rfl (by kernel_rfl) (by kernel_rfl) (by kernel_rfl) (fun _ _ _ h => h) (Or.inl ⟨by rfl, fun w hSw => by go_simp⟩) (by assumption) ?_
                  try simp only [Act.put, List.setIfInBounds_toArray, List.set_cons_zero, List.set_cons_succ]
                  refine wpAnyH_ready (rs := [3]) (by kernel_rfl) (by simp) ?_
                  refine AllReadyH.cons (o := { dst := some 162, op := Op.call { callee := Callee.value (Operand.func 9), args := #[Operand.tmp 161], argTypes := #[5] }, type := 34, pos := "law.go:71", after := #[{ on := 2, ground := Ground.data }], guard := none }) rfl (fun K hK => ?_) AllReadyH.nil
                  go_simp
                  with_reducible refine (CK.out _).mono ?_
                  rintro e w6 ⟨rfl, Bx⟩
                  refine hK.out _ _ (⟨(Bx.block _ (Array.getElem?_eq_some_iff.1 hHeld.1).1).trans hHeld.1, hHeld.2.step Bx⟩) (fun hHeld2 => ?_)
                  clear hK K hHeld Bx
                  have hHeld := hHeld2
                  clear hHeld2
                  try simp only [Act.put, List.setIfInBounds_toArray, List.set_cons_zero, List.set_cons_succ]
                  refine wpAnyH_ready (rs := [5]) (by kernel_rfl) (by simp) ?_
                  refine AllReadyH.cons (o := { dst := some 164, op := Op.call { callee := Callee.value (Operand.func 15), args := #[Operand.tmp 159, Operand.tmp 162, Operand.tmp 163], argTypes := #[24, 34, 28] }, type := 4, pos := "law.go:71", after := #[{ on := 0, ground := Ground.data }, { on := 3, ground := Ground.data }, { on := 4, ground := Ground.data }, { on := 3, ground := Ground.chain }], guard := none }) rfl (fun K hK => ?_) AllReadyH.nil
                  go_simp
                  with_reducible refine (CQ.out _ hHeld.2).mono ?_
                  rintro e w8 ⟨rfl, Bx⟩
                  refine hK.out _ _ (⟨(Bx.block _ (Array.getElem?_eq_some_iff.1 hHeld.1).1).trans hHeld.1, hHeld.2.step Bx⟩) (fun hHeld2 => ?_)
                  clear hK K hHeld Bx
                  have hHeld := hHeld2
                  clear hHeld2
                  try simp only [Act.put, List.setIfInBounds_toArray, List.set_cons_zero, List.set_cons_succ]
                  refine wpAnyH_take (i := 9) (oi := { dst := some 168, op := Op.move (Operand.tmp 167), type := 4, pos := "law.go:71", after := #[{ on := 8, ground := Ground.data }, { on := 5, ground := Ground.chain }], guard := none }) (v := .bool false) rfl (by kernel_rfl) (by kernel_rfl) (by kernel_rfl) (fun _ _ _ h => h) (Or.inl ⟨by rfl, fun w hSw => by go_simp⟩) (by assumption) ?_
                  try simp only [Act.put, List.setIfInBounds_toArray, List.set_cons_zero, List.set_cons_succ]
                  refine wpAnyH_take (i := 10) (oi := { dst := some 169, op := Op.move (Operand.tmp 19), type := 3, pos := "law.go:71", after := #[{ on := 9, ground := Ground.guard }], guard := some (9, false) }) (v := .int .i64 (k : Int)) rfl (by kernel_rfl) (by kernel_rfl) (by kernel_rfl) (fun _ _ _ h => h) (Or.inl ⟨by rfl, fun w hSw => by go_simp⟩) (by assumption) ?_
                  try simp only [Act.put, List.setIfInBounds_toArray, List.set_cons_zero, List.set_cons_succ]
                  refine wpAnyH_take (i := 11) (oi := { dst := some 170, op := Op.indexAddr 30 (Operand.tmp 7) (Operand.tmp 169), type := 0, pos := "law.go:71", after := #[{ on := 10, ground := Ground.data }, { on := 9, ground := Ground.guard }], guard := some (9, false) }) (v := .pointer (some ⟨bh, k, none⟩)) rfl (by kernel_rfl) (by kernel_rfl) (by kernel_rfl) (fun _ _ _ h => h) (Or.inl ⟨by rfl, fun w hSw => by go_simp⟩) (by assumption) ?_
                  try simp only [Act.put, List.setIfInBounds_toArray, List.set_cons_zero, List.set_cons_succ]
                  refine wpAnyH_take (i := 12) (oi := { dst := some 171, op := Op.load 4 (Operand.tmp 170), type := 4, pos := "law.go:71", after := #[{ on := 11, ground := Ground.data }, { on := 9, ground := Ground.guard }], guard := some (9, false) }) (v := .bool true) rfl (by kernel_rfl) (by kernel_rfl) (by kernel_rfl) (fun _ _ _ h => h) (Or.inl ⟨by rfl, fun w hSw => by obtain ⟨p0, p1, -⟩ := row2 hSw.1; obtain ⟨q0, q1, q2, -, -⟩ := hSw.2.at_ k HK.out.1; rw [hhk] at q2; rw [← HFE.out.2.2.1] at q0; rw [← HFE.out.2.2.2] at q1; go_simp⟩) (by assumption) ?_
                  try simp only [Act.put, List.setIfInBounds_toArray, List.set_cons_zero, List.set_cons_succ]
                  refine wpAnyH_take (i := 13) (oi := { dst := some 172, op := Op.unOp UnOp.not 4 (Operand.tmp 171), type := 4, pos := "law.go:71", after := #[{ on := 12, ground := Ground.data }, { on := 9, ground := Ground.guard }], guard := some (9, false) }) (v := .bool false) rfl (by kernel_rfl) (by kernel_rfl) (by kernel_rfl) (fun _ _ _ h => h) (Or.inl ⟨by rfl, fun w hSw => by go_simp⟩) (by assumption) ?_
                  try simp only [Act.put, List.setIfInBounds_toArray, List.set_cons_zero, List.set_cons_succ]
                  refine wpAnyH_take (i := 14) (oi := { dst := some 173, op := Op.pick (Operand.tmp 168) (Operand.const (Value.bool true)) (Operand.tmp 172), type := 4, pos := "law.go:71", after := #[{ on := 9, ground := Ground.data }, { on := 13, ground := Ground.data }], guard := none }) (v := .bool false) rfl (by kernel_rfl) (by kernel_rfl) (by kernel_rfl) (fun _ _ _ h => h) (Or.inl ⟨by rfl, fun w hSw => by go_simp⟩) (by assumption) ?_
                  try simp only [Act.put, List.setIfInBounds_toArray, List.set_cons_zero, List.set_cons_succ]
                  refine wpAnyH_take (i := 15) (oi := { dst := some 174, op := Op.move (Operand.tmp 173), type := 4, pos := "law.go:71", after := #[{ on := 14, ground := Ground.data }, { on := 9, ground := Ground.chain }], guard := none }) (v := .bool false) rfl (by kernel_rfl) (by kernel_rfl) (by kernel_rfl) (fun _ _ _ h => h) (Or.inl ⟨by rfl, fun w hSw => by go_simp⟩) (by assumption) ?_
                  try simp only [Act.put, List.setIfInBounds_toArray, List.set_cons_zero, List.set_cons_succ]
                  refine wpAnyH_take (i := 16) (oi := { dst := some 175, op := Op.load 28 (Operand.tmp 20), type := 28, pos := "law.go:71", after := #[{ on := 15, ground := Ground.guard }], guard := some (15, false) }) (v := .agg #[.int .u16 (Y : Int), .int .u16 (D2 : Int)]) rfl (by kernel_rfl) (by kernel_rfl) (by kernel_rfl) (fun _ _ _ h => h) (Or.inl ⟨by rfl, fun w hSw => by obtain ⟨p0, p1, -⟩ := row2 hSw.1; obtain ⟨q0, q1, q2, -, -⟩ := hSw.2.at_ k HK.out.1; rw [hhk] at q2; rw [← HFE.out.2.2.1] at q0; rw [← HFE.out.2.2.2] at q1; go_simp⟩) (by assumption) ?_
                  try simp only [Act.put, List.setIfInBounds_toArray, List.set_cons_zero, List.set_cons_succ]
                  refine wpAnyH_take (i := 17) (oi := { dst := some 176, op := Op.move (Operand.tmp 19), type := 3, pos := "law.go:71", after := #[{ on := 15, ground := Ground.guard }], guard := some (15, false) }) (v := .int .i64 (k : Int)) rfl (by kernel_rfl) (by kernel_rfl) (by kernel_rfl) (fun _ _ _ h => h) (Or.inl ⟨by rfl, fun w hSw => by go_simp⟩) (by assumption) ?_
                  try simp only [Act.put, List.setIfInBounds_toArray, List.set_cons_zero, List.set_cons_succ]
                  refine wpAnyH_take (i := 18) (oi := { dst := some 177, op := Op.indexAddr 29 (Operand.tmp 6) (Operand.tmp 176), type := 0, pos := "law.go:71", after := #[{ on := 17, ground := Ground.data }, { on := 15, ground := Ground.guard }], guard := some (15, false) }) (v := .pointer (some ⟨bm, k * 2, none⟩)) rfl (by kernel_rfl) (by kernel_rfl) (by kernel_rfl) (fun _ _ _ h => h) (Or.inl ⟨by rfl, fun w hSw => by go_simp⟩) (by assumption) ?_
                  try simp only [Act.put, List.setIfInBounds_toArray, List.set_cons_zero, List.set_cons_succ]
                  refine wpAnyH_take (i := 19) (oi := { dst := some 178, op := Op.load 28 (Operand.tmp 177), type := 28, pos := "law.go:71", after := #[{ on := 18, ground := Ground.data }, { on := 15, ground := Ground.guard }], guard := some (15, false) }) (v := .agg #[.int .u16 (s1 : Int), .int .u16 (s2 : Int)]) rfl (by kernel_rfl) (by kernel_rfl) (by kernel_rfl) (fun _ _ _ h => h) (Or.inl ⟨by rfl, fun w hSw => by obtain ⟨p0, p1, -⟩ := row2 hSw.1; obtain ⟨q0, q1, q2, -, -⟩ := hSw.2.at_ k HK.out.1; rw [hhk] at q2; rw [← HFE.out.2.2.1] at q0; rw [← HFE.out.2.2.2] at q1; go_simp⟩) (by assumption) ?_
                  try simp only [Act.put, List.setIfInBounds_toArray, List.set_cons_zero, List.set_cons_succ]
                  refine wpAnyH_ready (rs := [20]) (by kernel_rfl) (by simp) ?_
                  refine AllReadyH.cons (o := { dst := some 179, op := Op.call { callee := Callee.value (Operand.func 16), args := #[Operand.tmp 175, Operand.tmp 178], argTypes := #[28, 28] }, type := 4, pos := "law.go:71", after := #[{ on := 16, ground := Ground.data }, { on := 19, ground := Ground.data }, { on := 15, ground := Ground.chain }, { on := 15, ground := Ground.guard }], guard := some (15, false) }) rfl (fun K hK => ?_) AllReadyH.nil
                  go_simp
                  with_reducible refine (CN.out _).mono ?_
                  rintro e w9 ⟨rfl, Bx⟩
                  refine hK.out _ _ (⟨(Bx.block _ (Array.getElem?_eq_some_iff.1 hHeld.1).1).trans hHeld.1, hHeld.2.step Bx⟩) (fun hHeld2 => ?_)
                  clear hK K hHeld Bx
                  have hHeld := hHeld2
                  clear hHeld2
                  try simp only [Act.put, List.setIfInBounds_toArray, List.set_cons_zero, List.set_cons_succ]
                  refine wpAnyH_take (i := 21) (oi := { dst := some 180, op := Op.pick (Operand.tmp 174) (Operand.const (Value.bool true)) (Operand.tmp 179), type := 4, pos := "law.go:71", after := #[{ on := 15, ground := Ground.data }, { on := 20, ground := Ground.data }], guard := none }) (v := .bool fe) rfl (by kernel_rfl) (by kernel_rfl) (by kernel_rfl) (fun _ _ _ h => h) (Or.inl ⟨by rfl, fun w hSw => by go_simp⟩) (by assumption) ?_
                  try simp only [Act.put, List.setIfInBounds_toArray, List.set_cons_zero, List.set_cons_succ]
                  refine wpAnyH_take (i := 22) (oi := { dst := some 181, op := Op.binOp BinOp.neq 4 (Operand.tmp 164) (Operand.tmp 180) 4, type := 4, pos := "law.go:71", after := #[{ on := 5, ground := Ground.data }, { on := 21, ground := Ground.data }], guard := none }) (v := .bool false) rfl (by kernel_rfl) (by kernel_rfl) (by kernel_rfl) (fun _ _ _ h => h) (Or.inl ⟨by rfl, fun w hSw => by go_simp⟩) (by assumption) ?_
                  try simp only [Act.put, List.setIfInBounds_toArray, List.set_cons_zero, List.set_cons_succ]
                  refine wpAnyH_done (by kernel_rfl) ?_ _
                  try unfold NoPanic
                  have HE := Lib.hid hHeld.2
                  clear hHeld
                  go_wp2
                  go_roundw
                  case rel => exact ⟨j + 1, by omega, by go_num, HE.out⟩
                  case measure => simp [intOf]; omega
            · obtain rfl : j = len1 := by omega
              go_wp2_with (go_at_call 17; (with_reducible refine (Len_any _ q f c HQ.out.s).mono ?_); rintro e w3 ⟨rfl, rfl⟩)
              go_ret
              exact ⟨rfl, HQ.out.b⟩

set_option maxRecDepth 100000 in
theorem lifted (os : Os) (started : os.Started) (H : Type) (enc : TypeId × Value → H) :
    ReturnsInHanded {} Try.checked os 3 .any (Rows.sourcePlaysSpec.pre6 enc Try.prog Try.f3 Rows.sourcePlaysRow.domain false) (Rows.sourcePlaysSpec.post enc Try.prog Try.f3 false true false false) := by
  refine returnsInHanded_of_change (C := Try.checked) own started (by kernel_rfl) Try.func3
    (ChangeSpec.witness6 (enc := enc) (C := Try.checked) false ⟨#[], #[.slice none 0 0, .slice none 0 0], []⟩ 8 (by kernel_rfl) (by kernel_rfl) (by kernel_rfl) (by kernel_rfl)) ?_
  intro W base args ds gs before hval0 hW hcnd _
  have hval : ∀ (j : Nat) t v, Try.f3.params[j]? = some t → args[j]? = some v → Value.okWide Try.prog W .any base t v := hval0
  have hW' := hW
  obtain ⟨p, q, hA0, hV, rfl, hfz, hnd⟩ := hW
  have hA : DataW.TrodAll enc Try.prog W 0 (fun _ => true) true Try.f3.params.toList args.toList ds p := hA0
  rw [Try.params3] at hA hval
  obtain ⟨v0, vs0, d0, ds0, p0, q0, hargs, rfl, rfl, h0, r0⟩ := trodAll_cons hA
  obtain ⟨v1, vs1, d1, ds1, p1, q1, rfl, rfl, rfl, h1, r1⟩ := trodAll_cons r0
  obtain ⟨rfl, rfl, rfl⟩ := trodAll_nil r1
  obtain rfl : args = #[v0, v1] := by cases args; simp_all
  obtain ⟨rfl, rfl⟩ := trodVars_none hV
  obtain ⟨a0, len0, cap0, rfl⟩ := okWide_slice Try.underlying22 (hval 0 22 v0 rfl rfl)
  have k0 := h0
  have lt0 : ∀ x ∈ p0, x.block < W.heap.size := by obtain ⟨m, hm⟩ := k0; exact DataW.trod_lt m _ _ _ hm
  obtain ⟨z0, w0⟩ : ∃ zs, IsActs W a0 len0 cap0 zs := by
    obtain ⟨fuel, hf⟩ := h0
    obtain ⟨a, l, c, ds, hcs, hds⟩ := acts_of hf
    simp [Value.cells] at hcs
    obtain ⟨rfl, rfl, rfl⟩ := hcs
    exact ⟨ds, hds⟩
  obtain ⟨a1, len1, cap1, rfl⟩ := okWide_slice Try.underlying22 (hval 1 22 v1 rfl rfl)
  have k1 := h1
  have lt1 : ∀ x ∈ p1, x.block < W.heap.size := by obtain ⟨m, hm⟩ := k1; exact DataW.trod_lt m _ _ _ hm
  obtain ⟨z1, w1⟩ : ∃ zs, IsActs W a1 len1 cap1 zs := by
    obtain ⟨fuel, hf⟩ := h1
    obtain ⟨a, l, c, ds, hcs, hds⟩ := acts_of hf
    simp [Value.cells] at hcs
    obtain ⟨rfl, rfl, rfl⟩ := hcs
    exact ⟨ds, hds⟩
  clear hA0 hval0
  refine (walk a0 len0 cap0 z0 a1 len1 cap1 z1 W w0 w1).mono fun e W' ⟨he, bel⟩ => ?_
  subst he
  exact ⟨_, rfl, _, _, _, [], _, [], hW', trodAll_mk1 (shut_bool Try.underlying4 _), (trodAll_cons_mk (Below.trod laidOut (by kernel_rfl) (of_decide_eq_true (by kernel_rfl)) k0 bel lt0) (trodAll_cons_mk (Below.trod laidOut (by kernel_rfl) (of_decide_eq_true (by kernel_rfl)) k1 bel lt1) trodAll_mk0)), rfl, bel.frame _, fun h => by cases h⟩

theorem over : Rows.sourcePlaysRow.holds Try.pinned (OpenSpec.ofChange Rows.sourcePlaysSpec) :=
  OpenClaim.holds_of_wide 3 Try.f3 rfl rfl rfl rfl rfl rfl rfl ⟨rfl, rfl, rfl, rfl, rfl⟩ rfl rfl rfl rfl rfl (by kernel_rfl) Try.func3 (by kernel_rfl)
    (of_decide_eq_true (by kernel_rfl)) (by unfold Func.isWrapper; first | (rw [if_pos (by decide +kernel)]; kernel_rfl) | (rw [if_neg (by decide +kernel)]; exact ⟨rfl, rfl⟩))
    (fun os started H enc _ => lifted os started H enc)

theorem proved : Rows.SourcePlaysSaid := over
#print axioms proved
end Go.Proofs.Ytldaggcopbnehaa.sourcePlays
