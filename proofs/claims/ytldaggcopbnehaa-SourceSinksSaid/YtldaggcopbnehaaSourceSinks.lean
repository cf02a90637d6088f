/-
  'For every input the Go function milestonelaw15.SourceSinks returns true, and each argument reads behind the call as it read before.'
  Conditions: none but the row's own (linux/amd64, sizes of what is read within the address space).
-/
import Derived.Test.YtldaggcopbnehaaRows
import Derived.WalkKit
import Derived.ProofKit
import Derived.OpenShut
import Derived.ShutString
import Derived.ChangeOld
import Derived.Below
import Derived.Lib.SmallJoins
import Derived.Lib.Hide
import Derived.Test.YtldaggcopbnehaaSg
namespace Go.Proofs.Ytldaggcopbnehaa.sourceSinks
open Pre
open Ser
open Src
open Go.Sort
open Go.ChangeShapes Go.WideShapes Go.ChangeAt Go.RowKit
open Go.ChangeMaps (open_string shut_string)
set_option linter.unusedVariables false
set_option maxRecDepth 100000

theorem own : ownKnob Try.prog.godebug = none := by kernel_rfl
theorem laidOut : laidOutB Try.prog = true := by kernel_rfl

theorem near_trans (i j k m n o : Nat) (hi : i < 9) (hj : j < 9) (hk : k < 9) (h1 : nearer ((i + 65532) % 65536 : Nat) m ((j + 65532) % 65536 : Nat) n = true) (h2 : nearer ((j + 65532) % 65536 : Nat) n ((k + 65532) % 65536 : Nat) o = true) : nearer ((i + 65532) % 65536 : Nat) m ((k + 65532) % 65536 : Nat) o = true := by
  unfold nearer newer at *
  simp only [Bool.or_eq_true, Bool.and_eq_true, decide_eq_true_eq, beq_iff_eq] at *
  omega
/-- What stands between two rounds. -/
structure SB (w wr : World) (q g P S M a n : Nat) (f : Mk) (c : Nat) : Prop where
  b : Below w.heap.size w wr
  s : SrcAt w.heap.size wr q f c
  r3 : wr.heap[w.heap.size]? = some (.cells #[.int .u8 (P : Int), .int .u8 (S : Int), .int .u16 (M : Int)] 37 (0, 0))
  r6 : wr.heap[g]? = some (.cells #[.int .u32 (a : Int), .int .u8 (n : Int)] 34 (0, 0))
  c1 : c = if (f a n).isSome then 1 else 0
  cl : ∀ y, f a n = some y → ∃ i, i < 9 ∧ y.1 = (i + 65532) % 65536
theorem SB.step {w W W' : World} {q g P S M a n : Nat} {f : Mk} {c : Nat} (h : SB w W q g P S M a n f c) (B : Below W.heap.size W W') : SB w W' q g P S M a n f c :=
  ⟨h.b.trans (B.mono h.b.size), h.s.below B, (B.block _ (Array.getElem?_eq_some_iff.1 h.r3).1).trans h.r3, (B.block _ (Array.getElem?_eq_some_iff.1 h.r6).1).trans h.r6, h.c1, h.cl⟩
theorem put_self (f : Mk) (a n : Nat) (m : Nat × Nat) : f.put a n m a n = some m := by unfold Mk.put; rw [if_pos ⟨rfl, rfl⟩]
theorem low {w W : World} {q g P S M a n : Nat} {f : Mk} {c : Nat} (h : SB w W q g P S M a n f c) (hn : a < 4294967296 ∧ n < 256 ∧ Pre.right a n = true) (D1 D2 X X1 Y : Nat) (hD2 : D2 < 65536) (hX1 : X1 = (X % 9 + 65532) % 65536) (hY : Y = (D1 % 9 + 65532) % 65536) :
    Calls Try.prog 11 #[.pointer (some ⟨q, 0, none⟩), .agg #[.int .u32 (a : Int), .int .u8 (n : Int)], .agg #[.int .u16 (Y : Int), .int .u16 (D2 : Int)]] W fun e w' => ∃ e0 f' c', e = .returned (.int .i64 e0) ∧ SB w w' q g P S M a n f' c' ∧ (f'.feas a n (X1, M) = true → f.feas a n (X1, M) = true) ∧ K w.heap.size W w' := by
  subst hX1 hY
  by_cases h5 : D2 = 65535
  · subst h5
    exact (Lower_end W q a n hn.1 hn.2.1 hn.2.2 _).mono fun e w' ⟨h1, h2⟩ => ⟨1, f, c, h1, h.step h2, fun h => h, K.of h2 h.b.size⟩
  · refine (Lower_any W q f c h.s h.b.size a n hn.1 hn.2.1 hn.2.2 ((D1 % 9 + 65532) % 65536) D2 (by omega) (by have := h.c1; split at this <;> omega)).mono fun e w' ⟨h1, h2, h3⟩ => ⟨0, _, _, h1, ⟨h.b.trans h3.below, h2, h3.cells _ _ _ _ h.r3 (by decide), h3.cells _ _ _ _ h.r6 (by decide), ?_, ?_⟩, ?_, h3⟩
    · rw [put_self]
      have := h.c1
      cases hf : f a n with
      | none => rw [hf] at this; simp at this ⊢; omega
      | some y => rw [hf] at this; simpa using this
    · intro y hy
      rw [put_self] at hy
      cases hy
      unfold Mk.best
      cases hf : f a n with
      | none => exact ⟨D1 % 9, by omega, rfl⟩
      | some x =>
        simp only
        split
        · exact ⟨D1 % 9, by omega, rfl⟩
        · exact h.cl x hf
    · intro hfe
      unfold Mk.feas at *
      rw [put_self] at hfe
      cases hf : f a n with
      | none => simp
      | some x =>
        simp only [Bool.or_eq_true, decide_eq_true_eq] at hfe ⊢
        rcases hfe with hfe | hfe
        · exact Or.inl hfe
        · right
          unfold Mk.best at hfe
          rw [hf] at hfe
          simp only at hfe
          split at hfe
          · rename_i hnr
            obtain ⟨i, hi, hx⟩ := h.cl x hf
            rw [hx] at hnr ⊢
            exact near_trans _ _ _ _ _ _ (by omega) (by omega) hi hfe hnr
          · exact hfe
theorem walk (a0 : Option Addr) (len0 cap0 : Nat) (z0 : List ActD) (a1_0 a1_1 a1_2 : Int) (w : World) (w0 : IsActs w a0 len0 cap0 z0) (w1_0 : (Lit.int .u8 a1_0).wf = true) (w1_1 : (Lit.int .u8 a1_1).wf = true) (w1_2 : (Lit.int .u16 a1_2).wf = true) :
    Calls Try.prog 4 #[.slice a0 len0 cap0, .agg #[.int .u8 a1_0, .int .u8 a1_1, .int .u16 a1_2]] w fun e w' => e = .returned (.bool true) ∧ Below w.heap.size w w' := by
  have b0 := bounds_u8 w1_0
  have b1 := bounds_u8 w1_1
  have b2 := bounds_u16 w1_2
  clear w1_0 w1_1 w1_2
  obtain ⟨P, rfl⟩ := Int.eq_ofNat_of_zero_le b0.1
  obtain ⟨S, rfl⟩ := Int.eq_ofNat_of_zero_le b1.1
  obtain ⟨M, rfl⟩ := Int.eq_ofNat_of_zero_le b2.1
  have hP : P < 256 := by omega
  have hS : S < 256 := by omega
  have hM : M < 65536 := by omega
  clear b0 b1 b2
  have B0 := (Below.refl w.heap.size w).alloc (Nat.le_refl _) (.cells #[.int .u8 (P : Int), .int .u8 (S : Int), .int .u16 (M : Int)] 37)
  have R0 := heap_alloc_new w (.cells #[.int .u8 (P : Int), .int .u8 (S : Int), .int .u16 (M : Int)] 37)
  by_cases h60 : 60 < len0
  · have hd : decide ((60 : Int) < (len0 : Int)) = true := by simp; omega
    have HB := Lib.hid B0
    clear B0 R0 w0
    go_enter Try.func4, Try.ntmps4
    go_wp2_with fail
    refine (awake_any _).mono ?_
    rintro e wa ⟨rfl, h1⟩
    go_wp2_with fail
    refine (awake_any _).mono ?_
    rintro e wb ⟨rfl, h2⟩
    go_wp2_with fail
    go_ret
    exact ⟨rfl, HB.out.trans (h1.mono HB.out.size |>.trans (h2.mono (Nat.le_trans HB.out.size h1.size)))⟩
  have hd : decide ((60 : Int) < (len0 : Int)) = false := by simp; omega
  have HZ := Lib.hid w0
  have HB := Lib.hid (And.intro B0 R0)
  clear B0 R0 w0
  go_enter Try.func4, Try.ntmps4
  go_wp2_with fail
  refine (awake_any _).mono ?_
  rintro e wa ⟨rfl, h1⟩
  have HA := Lib.hid (And.intro (HB.out.1.trans (h1.mono HB.out.1.size)) ((h1.block _ (Array.getElem?_eq_some_iff.1 HB.out.2).1).trans HB.out.2))
  clear h1
  obtain ⟨a, ha⟩ : ∃ a, a = pA P := ⟨_, rfl⟩
  obtain ⟨n, hn⟩ : ∃ n, n = pN P := ⟨_, rfl⟩
  have CP : Hid (∀ W, Calls Try.prog 9 #[.int .u8 P] W fun e w' => e = .returned (.agg #[.int .u32 (a : Int), .int .u8 (n : Int)]) ∧ Below W.heap.size W w') := Lib.hid fun W => by rw [ha, hn]; exact prefix_n P hP W
  have HN : Hid (a < 4294967296 ∧ n < 256 ∧ Pre.right a n = true) := Lib.hid ⟨by rw [ha]; exact pA_lt P, by rw [hn]; have := pN_le P; omega, by rw [ha, hn]; exact p_right P⟩
  clear ha hn
  go_upto_region 7 with (first
    | (go_at_call 7; go_loud ((with_reducible refine (New_any _).mono ?_); rintro e wb ⟨rfl, S1, B1⟩; have H1 := Lib.hid (And.intro (S1.mono HA.out.1.size) (And.intro (HA.out.1.trans (B1.mono HA.out.1.size)) ((B1.block _ (Array.getElem?_eq_some_iff.1 HA.out.2).1).trans HA.out.2))); obtain ⟨p0, p1, p2, pf⟩ := row3 H1.out.2.2; have hz1 : w.heap.size < wb.heap.size := (Array.getElem?_eq_some_iff.1 H1.out.2.2).1; clear S1 B1))
    | (go_at_call 9; (with_reducible refine (CP.out _).mono ?_); rintro e wc ⟨rfl, B2⟩; have H2 := Lib.hid (B2.alloc B2.size (.cells #[.int .u32 (a : Int), .int .u8 (n : Int)] 34)); have R6 := Lib.hid (heap_alloc_new wc (.cells #[.int .u32 (a : Int), .int .u8 (n : Int)] 34)); clear B2 p0 p1 p2 pf))
  have HS : Hid (SB w (wc.alloc (.cells #[.int .u32 (a : Int), .int .u8 (n : Int)] 34)) wa.heap.size wc.heap.size P S M a n (fun _ _ => none) 0) := Lib.hid ⟨H1.out.2.1.trans (H2.out.mono H1.out.2.1.size), H1.out.1.below H2.out, (H2.out.block _ (Array.getElem?_eq_some_iff.1 H1.out.2.2).1).trans H1.out.2.2, R6.out, rfl, fun y e => by cases e⟩
  clear H1 H2 R6 hz1
  generalize wc.heap.size = g at *
  generalize wa.heap.size = q at *
  generalize wc.alloc (.cells #[.int .u32 (a : Int), .int .u8 (n : Int)] 34) = w1 at *
  obtain ⟨X1, hX1⟩ : ∃ X1, X1 = (S % 9 + 65532) % 65536 := ⟨_, rfl⟩
  have CX : Hid (∀ W, Calls Try.prog 10 #[.agg #[.int .u8 (P : Int), .int .u8 (S : Int), .int .u16 (M : Int)]] W fun e w' => e = .returned (.agg #[.int .u16 (X1 : Int), .int .u16 (M : Int)]) ∧ Below W.heap.size W w') := Lib.hid fun W => hX1 ▸ mark_any P S M hS W
  have HX1 := Lib.hid hX1
  clear hX1
  go_wp2
  go_loopw [7, 8] (fun v7 v8 wr => ∃ (j : Nat) (now : Bool) (f : Mk) (c : Nat), j ≤ len0 ∧ v7 = .bool now ∧ v8 = .int .i64 j ∧ Hid (now = f.feas a n (X1, M) ∧ SB w wr q g P S M a n f c)) (fun _ v8 _ => len0 - (intOf v8).toNat)
  case atStart => exact ⟨0, true, _, 0, Nat.zero_le _, rfl, rfl, ⟨by unfold Mk.feas; simp, HS.out⟩⟩
  case round =>
    obtain ⟨j, now, f, c, hj, rfl, rfl, HR⟩ := hrel
    clear HS
    rcases Nat.lt_or_ge j len0 with hlt | hge
    · have hlt' : (j : Int) < len0 := by omega
      obtain ⟨d, b, o, rfl, hA⟩ := HZ.out.at' HR.out.2.b j hlt
      obtain ⟨p0, p1, p2, pf⟩ := row3 HR.out.2.r3
      have hz1 : w.heap.size < wr.heap.size := (Array.getElem?_eq_some_iff.1 HR.out.2.r3).1
      obtain ⟨D0, D1, D2⟩ := d
      obtain ⟨k0, k1, k2, hD0, hD1, hD2⟩ := hA
      simp only at k0 k1 k2 hD0 hD1 hD2
      go_upto_region 11 with (fail)
      have HW := Lib.hid (And.intro (HR.out.2.step ((Below.refl _ _).alloc (Nat.le_refl _) (.cells #[.int .u8 (P : Int), .int .u8 (D1 : Int), .int .u16 (D2 : Int)] 37))) (heap_alloc_new wr (.cells #[.int .u8 (P : Int), .int .u8 (D1 : Int), .int .u16 (D2 : Int)] 37)))
      clear p0 p1 p2 pf hz1 k0 k1 k2
      generalize wr.heap.size = z at *
      generalize wr.alloc (.cells #[.int .u8 (P : Int), .int .u8 (D1 : Int), .int .u16 (D2 : Int)] 37) = W1 at *
      have HD := Lib.hid (HW.out.1.step ((Below.refl _ _).drew))
      obtain ⟨Y, hY⟩ : ∃ Y, Y = (D1 % 9 + 65532) % 65536 := ⟨_, rfl⟩
      have CM : Hid (∀ W, Calls Try.prog 10 #[.agg #[.int .u8 (P : Int), .int .u8 (D1 : Int), .int .u16 (D2 : Int)]] W fun e w' => e = .returned (.agg #[.int .u16 (Y : Int), .int .u16 (D2 : Int)]) ∧ Below W.heap.size W w') := Lib.hid fun W => hY ▸ mark_any P D1 D2 hD1 W
      have HY := Lib.hid hY
      clear hY
      refine wp_region_noPanic ?_
      refine wp_region_held_drew (S := fun x : World => x.heap[w.heap.size]? = some (.cells #[.int .u8 (P : Int), .int .u8 (S : Int), .int .u16 (M : Int)] 37 (0, 0)) ∧ x.heap[g]? = some (.cells #[.int .u32 (a : Int), .int .u8 (n : Int)] 34 (0, 0)) ∧ x.heap[z]? = some (.cells #[.int .u8 (P : Int), .int .u8 (D1 : Int), .int .u16 (D2 : Int)] 37 (0, 0))) (by kernel_rfl) ⟨HW.out.1.r3, HW.out.1.r6, HW.out.2⟩ (fun hHeld => ?_)
      generalize W1.drew = wd at *
      refine wpAnyH_take (i := 0) (oi := { dst := some 36, op := Op.move (Operand.tmp 5), type := 24, pos := "law.go:89", after := #[], guard := none }) (v := .pointer (some ⟨q, 0, none⟩)) rfl (by kernel_rfl) (by kernel_rfl) (by kernel_rfl) (fun _ _ _ h => h) (Or.inl ⟨by rfl, fun w hSw => by go_simp⟩) (by assumption) ?_
      try simp only [Act.put, List.setIfInBounds_toArray, List.set_cons_zero, List.set_cons_succ]
      refine wpAnyH_take (i := 1) (oi := { dst := some 37, op := Op.load 34 (Operand.tmp 6), type := 34, pos := "law.go:89", after := #[], guard := none }) (v := .agg #[.int .u32 (a : Int), .int .u8 (n : Int)]) rfl (by kernel_rfl) (by kernel_rfl) (by kernel_rfl) (fun _ _ _ h => h) (Or.inl ⟨by rfl, fun w hSw => by obtain ⟨u0, u1, -⟩ := row2 hSw.2.1; go_simp⟩) (by assumption) ?_
      try simp only [Act.put, List.setIfInBounds_toArray, List.set_cons_zero, List.set_cons_succ]
      refine wpAnyH_take (i := 2) (oi := { dst := some 38, op := Op.load 37 (Operand.tmp 9), type := 37, pos := "law.go:89", after := #[], guard := none }) (v := .agg #[.int .u8 (P : Int), .int .u8 (D1 : Int), .int .u16 (D2 : Int)]) rfl (by kernel_rfl) (by kernel_rfl) (by kernel_rfl) (fun _ _ _ h => h) (Or.inl ⟨by rfl, fun w hSw => by obtain ⟨v0, v1, v2, -⟩ := row3 hSw.2.2; go_simp⟩) (by assumption) ?_
      try simp only [Act.put, List.setIfInBounds_toArray, List.set_cons_zero, List.set_cons_succ]
      refine wpAnyH_ready (rs := [3]) (by kernel_rfl) (by simp) ?_
      refine AllReadyH.cons (o := { dst := some 39, op := Op.call { callee := Callee.value (Operand.func 10), args := #[Operand.tmp 38], argTypes := #[37] }, type := 28, pos := "law.go:89", after := #[{ on := 2, ground := Ground.data }], guard := none }) rfl (fun K hK => ?_) AllReadyH.nil
      go_simp
      with_reducible refine (CM.out _).mono ?_
      rintro e w3 ⟨rfl, B3⟩
      refine hK.out _ _ (⟨(B3.block _ (Array.getElem?_eq_some_iff.1 hHeld.1).1).trans hHeld.1, (B3.block _ (Array.getElem?_eq_some_iff.1 hHeld.2.1).1).trans hHeld.2.1, (B3.block _ (Array.getElem?_eq_some_iff.1 hHeld.2.2).1).trans hHeld.2.2⟩) (fun hHeld2 => ?_)
      clear hK K
      have HD2 := Lib.hid (HD.out.step B3)
      clear hHeld B3
      have hHeld := hHeld2
      clear hHeld2
      try simp only [Act.put, List.setIfInBounds_toArray, List.set_cons_zero, List.set_cons_succ]
      refine wpAnyH_ready (rs := [4]) (by kernel_rfl) (by simp) ?_
      refine AllReadyH.cons (o := { dst := some 40, op := Op.call { callee := Callee.value (Operand.func 11), args := #[Operand.tmp 36, Operand.tmp 37, Operand.tmp 39], argTypes := #[24, 34, 28] }, type := 39, pos := "law.go:89", after := #[{ on := 0, ground := Ground.data }, { on := 1, ground := Ground.data }, { on := 3, ground := Ground.data }, { on := 3, ground := Ground.chain }], guard := none }) rfl (fun K hK => ?_) AllReadyH.nil
      go_simp
      with_reducible refine (low HD2.out HN.out D1 D2 S X1 Y hD2 HX1.out HY.out).mono ?_
      rintro e w4 ⟨e0, f', c', rfl, S4, F4, K4⟩
      refine hK.out _ _ (⟨K4.cells _ _ _ _ hHeld.1 (by decide), K4.cells _ _ _ _ hHeld.2.1 (by decide), K4.cells _ _ _ _ hHeld.2.2 (by decide)⟩) (fun hHeld2 => ?_)
      clear hK K hHeld
      have hHeld := hHeld2
      have H4 := Lib.hid (And.intro S4 F4)
      obtain ⟨nw, hnw⟩ : ∃ nw, nw = f'.feas a n (X1, M) := ⟨_, rfl⟩
      have CF : Hid (∀ W, SrcAt w.heap.size W q f' c' → Calls Try.prog 15 #[.pointer (some ⟨q, 0, none⟩), .agg #[.int .u32 (a : Int), .int .u8 (n : Int)], .agg #[.int .u16 (X1 : Int), .int .u16 (M : Int)]] W fun e w' => e = .returned (.bool nw) ∧ Below W.heap.size W w') := Lib.hid fun W hW => hnw ▸ feas_any W q f' c' hW a n HN.out.1 HN.out.2.1 (X1, M)
      have HNW := Lib.hid hnw.symm
      clear hnw
      clear S4 F4 K4 hHeld2
      try simp only [Act.put, List.setIfInBounds_toArray, List.set_cons_zero, List.set_cons_succ]
      refine wpAnyH_done (by kernel_rfl) ?_ _
      try unfold NoPanic
      clear hHeld
      go_upto_region 12 with (fail)
      have HD4 := Lib.hid (H4.out.1.step ((Below.refl _ _).drew))
      refine wp_region_noPanic ?_
      refine wp_region_held_drew (S := fun x : World => x.heap[w.heap.size]? = some (.cells #[.int .u8 (P : Int), .int .u8 (S : Int), .int .u16 (M : Int)] 37 (0, 0)) ∧ x.heap[g]? = some (.cells #[.int .u32 (a : Int), .int .u8 (n : Int)] 34 (0, 0))) (by kernel_rfl) ⟨H4.out.1.r3, H4.out.1.r6⟩ (fun hHeld => ?_)
      generalize w4.drew = wd2 at *
      refine wpAnyH_take (i := 0) (oi := { dst := some 41, op := Op.move (Operand.tmp 5), type := 24, pos := "law.go:90", after := #[], guard := none }) (v := .pointer (some ⟨q, 0, none⟩)) rfl (by kernel_rfl) (by kernel_rfl) (by kernel_rfl) (fun _ _ _ h => h) (Or.inl ⟨by rfl, fun w hSw => by go_simp⟩) (by assumption) ?_
      try simp only [Act.put, List.setIfInBounds_toArray, List.set_cons_zero, List.set_cons_succ]
      refine wpAnyH_take (i := 1) (oi := { dst := some 42, op := Op.load 34 (Operand.tmp 6), type := 34, pos := "law.go:90", after := #[], guard := none }) (v := .agg #[.int .u32 (a : Int), .int .u8 (n : Int)]) rfl (by kernel_rfl) (by kernel_rfl) (by kernel_rfl) (fun _ _ _ h => h) (Or.inl ⟨by rfl, fun w hSw => by obtain ⟨u0, u1, -⟩ := row2 hSw.2; go_simp⟩) (by assumption) ?_
      try simp only [Act.put, List.setIfInBounds_toArray, List.set_cons_zero, List.set_cons_succ]
      refine wpAnyH_take (i := 2) (oi := { dst := some 43, op := Op.load 37 (Operand.tmp 3), type := 37, pos := "law.go:90", after := #[], guard := none }) (v := .agg #[.int .u8 (P : Int), .int .u8 (S : Int), .int .u16 (M : Int)]) rfl (by kernel_rfl) (by kernel_rfl) (by kernel_rfl) (fun _ _ _ h => h) (Or.inl ⟨by rfl, fun w hSw => by obtain ⟨v0, v1, v2, -⟩ := row3 hSw.1; go_simp⟩) (by assumption) ?_
      try simp only [Act.put, List.setIfInBounds_toArray, List.set_cons_zero, List.set_cons_succ]
      refine wpAnyH_ready (rs := [3]) (by kernel_rfl) (by simp) ?_
      refine AllReadyH.cons (o := { dst := some 44, op := Op.call { callee := Callee.value (Operand.func 10), args := #[Operand.tmp 43], argTypes := #[37] }, type := 28, pos := "law.go:90", after := #[{ on := 2, ground := Ground.data }], guard := none }) rfl (fun K hK => ?_) AllReadyH.nil
      go_simp
      with_reducible refine (CX.out _).mono ?_
      rintro e w5 ⟨rfl, B5⟩
      have H5 := Lib.hid (HD4.out.step B5)
      refine hK.out _ _ (⟨H5.out.r3, H5.out.r6⟩) (fun hHeld2 => ?_)
      clear hK K hHeld B5
      have hHeld := hHeld2
      clear hHeld2
      try simp only [Act.put, List.setIfInBounds_toArray, List.set_cons_zero, List.set_cons_succ]
      refine wpAnyH_ready (rs := [4]) (by kernel_rfl) (by simp) ?_
      refine AllReadyH.cons (o := { dst := some 45, op := Op.call { callee := Callee.value (Operand.func 15), args := #[Operand.tmp 41, Operand.tmp 42, Operand.tmp 44], argTypes := #[24, 34, 28] }, type := 4, pos := "law.go:90", after := #[{ on := 0, ground := Ground.data }, { on := 1, ground := Ground.data }, { on := 3, ground := Ground.data }, { on := 3, ground := Ground.chain }], guard := none }) rfl (fun K hK => ?_) AllReadyH.nil
      go_simp
      with_reducible refine (CF.out _ H5.out.s).mono ?_
      rintro e w6 ⟨rfl, B6⟩
      have H6 := Lib.hid (H5.out.step B6)
      refine hK.out _ _ (⟨H6.out.r3, H6.out.r6⟩) (fun hHeld2 => ?_)
      clear hK K hHeld B6
      have hHeld := hHeld2
      clear hHeld2
      try simp only [Act.put, List.setIfInBounds_toArray, List.set_cons_zero, List.set_cons_succ]
      refine wpAnyH_take (i := 5) (oi := { dst := some 10, op := Op.assign (Operand.tmp 45), type := 4, pos := "law.go:90", after := #[{ on := 4, ground := Ground.data }, { on := 4, ground := Ground.chain }, { on := 0, ground := Ground.phase }, { on := 1, ground := Ground.phase }, { on := 2, ground := Ground.phase }, { on := 3, ground := Ground.phase }, { on := 4, ground := Ground.phase }], guard := none }) (v := .bool nw) rfl (by kernel_rfl) (by kernel_rfl) (by kernel_rfl) (fun _ _ _ h => h) (Or.inl ⟨by rfl, fun w hSw => by go_simp⟩) (by assumption) ?_
      try simp only [Act.put, List.setIfInBounds_toArray, List.set_cons_zero, List.set_cons_succ]
      refine wpAnyH_done (by kernel_rfl) ?_ _
      try unfold NoPanic
      clear hHeld
      cases nw with
      | true =>
        have hnow : now = true := by rw [HR.out.1]; exact H4.out.2 HNW.out
        subst hnow
        go_wp2
        go_roundw
        case rel => exact ⟨j + 1, true, f', c', hlt, rfl, by go_num, ⟨HNW.out.symm, H6.out⟩⟩
        case measure => simp [intOf]; omega
      | false =>
        go_wp2
        go_roundw
        case rel => exact ⟨j + 1, false, f', c', hlt, rfl, by go_num, ⟨HNW.out.symm, H6.out⟩⟩
        case measure => simp [intOf]; omega
    · obtain rfl : j = len0 := by omega
      go_wp2
      go_ret
      exact ⟨rfl, HR.out.2.b⟩

set_option maxRecDepth 100000 in
theorem lifted (os : Os) (started : os.Started) (H : Type) (enc : TypeId × Value → H) :
    ReturnsInHanded {} Try.checked os 4 .any (Rows.sourceSinksSpec.pre6 enc Try.prog Try.f4 Rows.sourceSinksRow.domain false) (Rows.sourceSinksSpec.post enc Try.prog Try.f4 false true false false) := by
  refine returnsInHanded_of_change (C := Try.checked) own started (by kernel_rfl) Try.func4
    (ChangeSpec.witness6 (enc := enc) (C := Try.checked) false ⟨#[], #[.slice none 0 0, .agg #[.int .u8 0, .int .u8 0, .int .u16 0]], []⟩ 8 (by kernel_rfl) (by kernel_rfl) (by kernel_rfl) (by kernel_rfl)) ?_
  intro W base args ds gs before hval0 hW hcnd _
  have hval : ∀ (j : Nat) t v, Try.f4.params[j]? = some t → args[j]? = some v → Value.okWide Try.prog W .any base t v := hval0
  have hW' := hW
  obtain ⟨p, q, hA0, hV, rfl, hfz, hnd⟩ := hW
  have hA : DataW.TrodAll enc Try.prog W 0 (fun _ => true) true Try.f4.params.toList args.toList ds p := hA0
  rw [Try.params4] at hA hval
  obtain ⟨v0, vs0, d0, ds0, p0, q0, hargs, rfl, rfl, h0, r0⟩ := trodAll_cons hA
  obtain ⟨v1, vs1, d1, ds1, p1, q1, rfl, rfl, rfl, h1, r1⟩ := trodAll_cons r0
  obtain ⟨rfl, rfl, rfl⟩ := trodAll_nil r1
  obtain rfl : args = #[v0, v1] := by cases args; simp_all
  obtain ⟨rfl, rfl⟩ := trodVars_none hV
  obtain ⟨a0, len0, cap0, rfl⟩ := okWide_slice Try.underlying22 (hval 0 22 v0 rfl rfl)
  have k0 := h0
  have lt0 : ∀ x ∈ p0, x.block < W.heap.size := by obtain ⟨m, hm⟩ := k0; exact DataW.trod_lt m _ _ _ hm
  obtain ⟨z0, w0⟩ : ∃ zs, IsActs W a0 len0 cap0 zs := by
    obtain ⟨fuel, hf⟩ := h0
    obtain ⟨a, l, c, ds, hcs, hds⟩ := acts_of hf
    simp [Value.cells] at hcs
    obtain ⟨rfl, rfl, rfl⟩ := hcs
    exact ⟨ds, hds⟩
  have k1 := h1
  have lt1 : ∀ x ∈ p1, x.block < W.heap.size := by obtain ⟨m, hm⟩ := k1; exact DataW.trod_lt m _ _ _ hm
  obtain ⟨c1_0, c1_1, c1_2, y1_0, y1_1, y1_2, m1, rfl, hd1, hp1, hy1_0, hy1_1, hy1_2⟩ := Joins.open_agg3 Try.underlying37 (by kernel_rfl) (show Try.prog.cellsOf 37 = 3 by kernel_rfl) (hval 1 37 v1 rfl rfl) h1
  obtain ⟨a1_0, e1_0, _, w1_0⟩ := DataW.trod_int Try.underlying5 hy1_0
  simp only [List.cons.injEq, and_true] at e1_0
  subst e1_0
  obtain ⟨a1_1, e1_1, _, w1_1⟩ := DataW.trod_int Try.underlying5 hy1_1
  simp only [List.cons.injEq, and_true] at e1_1
  subst e1_1
  obtain ⟨a1_2, e1_2, _, w1_2⟩ := DataW.trod_int Try.underlying26 hy1_2
  simp only [List.cons.injEq, and_true] at e1_2
  subst e1_2
  clear hA0 hval0
  refine (walk a0 len0 cap0 z0 a1_0 a1_1 a1_2 W w0 w1_0 w1_1 w1_2).mono fun e W' ⟨he, bel⟩ => ?_
  subst he
  exact ⟨_, rfl, _, _, _, [], _, [], hW', trodAll_mk1 (shut_bool Try.underlying4 _), (trodAll_cons_mk (Below.trod laidOut (by kernel_rfl) (of_decide_eq_true (by kernel_rfl)) k0 bel lt0) (trodAll_cons_mk (Below.trod laidOut (by kernel_rfl) (of_decide_eq_true (by kernel_rfl)) k1 bel lt1) trodAll_mk0)), rfl, bel.frame _, fun h => by cases h⟩

theorem over : Rows.sourceSinksRow.holds Try.pinned (OpenSpec.ofChange Rows.sourceSinksSpec) :=
  OpenClaim.holds_of_wide 4 Try.f4 rfl rfl rfl rfl rfl rfl rfl ⟨rfl, rfl, rfl, rfl, rfl⟩ rfl rfl rfl rfl rfl (by kernel_rfl) Try.func4 (by kernel_rfl)
    (of_decide_eq_true (by kernel_rfl)) (by unfold Func.isWrapper; first | (rw [if_pos (by decide +kernel)]; kernel_rfl) | (rw [if_neg (by decide +kernel)]; exact ⟨rfl, rfl⟩))
    (fun os started H enc _ => lifted os started H enc)

theorem proved : Rows.SourceSinksSaid := over
#print axioms proved
end Go.Proofs.Ytldaggcopbnehaa.sourceSinks
