/- The law's own marks; the first number of a prefix. -/
import Derived.Test.YtkbhmdoichiinaaSE
import Derived.Lib.QuietBelow
namespace Go.Proofs.Ytkbhmdoichiinaa.Src
open Pre Ser
open Go.ChangeShapes Go.WideShapes Go.ChangeAt Go.RowKit Go.Sort
set_option maxRecDepth 8000
set_option linter.unusedVariables false
set_option maxHeartbeats 1000000 in
theorem first_n (n : Nat) (u : World) :
    Calls Try.prog 18 #[pv (pA n) (pN n)] u fun e w' => e = .returned (.int .i64 (fk n : Nat)) ∧ Below u.heap.size u w' := by
  have B1 := (Below.refl u.heap.size u).alloc (Nat.le_refl _) (.cells #[.int .u32 (pA n : Nat), .int .u8 (pN n : Nat)] 39)
  have L0 := Lib.hid (And.intro B1 (heap_alloc_new u (.cells #[.int .u32 (pA n : Nat), .int .u8 (pN n : Nat)] 39)))
  clear B1
  obtain ⟨F, hF⟩ : ∃ F, F = fk n := ⟨_, rfl⟩
  obtain ⟨a, hA⟩ : ∃ a, a = pA n := ⟨_, rfl⟩
  obtain ⟨k, hN⟩ : ∃ k, k = pN n := ⟨_, rfl⟩
  have HF : Hid (F < 18 ∧ pA F = a ∧ pN F = k ∧ ∀ j, j < F → ¬ (pA j = a ∧ pN j = k)) := Lib.hid ⟨hF ▸ fk_lt n, by rw [hF, hA, fk_A], by rw [hF, hN, fk_N], fun j hj => by rw [hA, hN]; exact fk_first n j (hF ▸ hj)⟩
  unfold pv
  rw [← hF, ← hA, ← hN]
  rw [← hA, ← hN] at L0
  clear hF hA hN
  go_enter Try.func18, Try.ntmps18
  go_wp2
  generalize u.alloc _ = w1 at *
  go_loopw [3] (fun i wr => ∃ j : Nat, j ≤ F ∧ i = .int .i64 j ∧ Hid (Below u.heap.size u wr ∧ wr.heap[u.heap.size]? = some (.cells #[.int .u32 (a : Int), .int .u8 (k : Int)] 39 (0, 0)))) (fun i _ => F - (intOf i).toNat)
  case atStart => exact ⟨0, Nat.zero_le _, rfl, L0⟩
  case round =>
    obtain ⟨j, hj, rfl, HL⟩ := hrel
    clear L0
    have h18 : j < 18 := by have := HF.out.1; omega
    have hw : IntKind.u8.wrap (j : Int) = j := by rw [IntKind.wrap_u8]; omega
    obtain ⟨p0, p1, -⟩ := row2 HL.out.2
    have k0 := cell_regrown p0
    have k1 := cell_regrown p1
    obtain ⟨aj, haj⟩ : ∃ aj, aj = pA j := ⟨_, rfl⟩
    obtain ⟨kj, hkj⟩ : ∃ kj, kj = pN j := ⟨_, rfl⟩
    have cP : ∀ d os, Calls Try.prog 17 #[.int .u8 j] (grow (redrawn wr d) os) fun e w'' => e = .returned (.agg #[.int .u32 (aj : Int), .int .u8 (kj : Int)]) ∧ ∃ p : Regrown, w'' = grow (redrawn wr p.d) p.os := fun d os => by rw [haj, hkj]; exact Calls.regrown_of (prefix_n j (by omega) _)
    clear p0 p1
    rcases Nat.lt_or_ge j F with hlt | hge
    · have hne : ¬ ((aj : Int) = a ∧ (kj : Int) = k) := by
        have := HF.out.2.2.2 j hlt
        rw [haj, hkj]
        omega
      clear haj hkj
      go_upto_region 4 with (fail)
      refine wp_region_quiet_below (by kernel_rfl) (by kernel_rfl) ?_
      repeat (quiet_step (with_reducible exact cP _ _))
      refine wpQuiet_step (fun K hK => ?_)
      go_simp
      refine ⟨.bool false, fun p => ?_, hK _ ?_⟩
      · by_cases h1 : (aj : Int) = a
        · have h2 : ¬ (kj : Int) = k := fun h2 => hne ⟨h1, h2⟩
          simp only [if_pos h1, if_neg h2]
          exact ⟨trivial, trivial⟩
        · simp only [if_neg h1]
          exact ⟨trivial, trivial⟩
      clear hK K
      refine wpQuiet_nil ?_
      intro _ hw'
      obtain ⟨⟨dq, osq⟩, hw''⟩ := hw'
      subst hw''
      have HB := Lib.hid (below_regrown wr dq osq)
      clear k0 k1 cP
      go_wp2
      go_roundw
      case rel => exact ⟨j + 1, hlt, by go_num, ⟨HL.out.1.trans (HB.out.mono HL.out.1.size), (HB.out.block _ (Array.getElem?_eq_some_iff.1 HL.out.2).1).trans HL.out.2⟩⟩
      case measure => simp [intOf]; omega
    · obtain rfl : j = F := by omega
      obtain rfl : aj = a := by rw [haj, HF.out.2.1]
      obtain rfl : kj = k := by rw [hkj, HF.out.2.2.1]
      clear haj hkj
      go_upto_region 4 with (fail)
      refine wp_region_quiet_below (by kernel_rfl) (by kernel_rfl) ?_
      repeat (quiet_step (with_reducible exact cP _ _))
      refine wpQuiet_nil ?_
      intro _ hw'
      obtain ⟨⟨dq, osq⟩, hw''⟩ := hw'
      subst hw''
      have HB := Lib.hid (below_regrown wr dq osq)
      clear k0 k1 cP
      go_wp2
      go_ret
      exact ⟨rfl, HL.out.1.trans (HB.out.mono HL.out.1.size)⟩
theorem SrcAt.mono {lo lo' : Nat} {w : World} {q : Nat} {f : Mk} {c : Nat} (h : SrcAt lo w q f c) (hl : lo' ≤ lo) : SrcAt lo' w q f c := by
  obtain ⟨h1, v, h2, h3⟩ := h
  refine ⟨Nat.le_trans hl h1, v, h2, ?_⟩
  rcases h3 with h3 | ⟨b, e, hb, hm⟩
  · exact Or.inl h3
  · exact Or.inr ⟨b, e, Nat.le_trans hl hb, hm⟩
end Go.Proofs.Ytkbhmdoichiinaa.Src
namespace Go.Proofs.Ytkbhmdoichiinaa.Rts
open Pre Ser
open Go.Proofs.Ytkbhmdoichiinaa.Src (row1 row2)
open Go.ChangeShapes Go.WideShapes Go.ChangeAt Go.RowKit
set_option maxRecDepth 8000
set_option linter.unusedVariables false

open Go.Proofs.Ytkbhmdoichiinaa.Src (Mk SrcAt pA pN)
theorem best4 {f : Mk} {a m s M : Nat} (hf : ∀ a n y, f a n = some y → y.1 < 4) (hs : s < 4) {b k : Nat} {y : Nat × Nat} (hy : f.put a m (f.best a m (s, M)) b k = some y) : y.1 < 4 := by
  unfold Mk.put at hy
  split at hy
  · cases hy
    unfold Mk.best
    cases hx : f a m with
    | none => exact hs
    | some x =>
      simp only
      split
      · exact hs
      · exact hf _ _ _ hx
  · exact hf _ _ _ hy
set_option maxHeartbeats 4000000 in
theorem lowered_any (w : World) (a0 : Option Addr) (len0 cap0 : Nat) (z0 : List ActD) (hy : IsActs w a0 len0 cap0 z0) (h30 : len0 ≤ 30) :
    Calls Try.prog 14 #[.slice a0 len0 cap0] w fun e w' => ∃ q f c, e = .returned (.pointer (some ⟨q, 0, none⟩)) ∧ SrcAt w.heap.size w' q f c ∧ Below w.heap.size w w' ∧ c ≤ len0 ∧ ∀ a n y, f a n = some y → y.1 < 4 := by
  have HY := Lib.hid hy
  clear hy
  go_enter Try.func14, Try.ntmps14
  go_wp2_with (go_at_call 28; (with_reducible refine (Src.New_any _).mono ?_); rintro en w1 ⟨rfl, S1, B1⟩; have H1 := Lib.hid (And.intro S1 B1); clear S1 B1)
  generalize hq : w.heap.size = q at *
  have HQW := Lib.hid hq
  clear hq
  go_loopw [4] (fun iv wr => ∃ k : Nat, k ≤ len0 ∧ iv = .int .i64 k ∧ ∃ f c, Hid (SrcAt q wr q f c ∧ Below q w wr ∧ c ≤ k ∧ ∀ a n y, f a n = some y → y.1 < 4)) (fun iv _ => len0 - (intOf iv).toNat)
  case atStart => exact ⟨0, Nat.zero_le _, rfl, _, 0, H1.out.1, H1.out.2, Nat.le_refl _, fun a n y h => by cases h⟩
  case round =>
    obtain ⟨k, hk, rfl, f, c, HS⟩ := hrel
    clear H1
    by_cases hlt : k < len0
    · have hkz : k < z0.length := by rw [← HY.out.1]; exact hlt
      obtain ⟨b0, o0, rfl, hb0, hA0⟩ := HY.out.at' (Below.refl _ _) k hkz
      have HDO := Lib.hid hA0.ok
      have HAC : Hid (∀ W, Below q w W → AAt W b0 (o0 + k * 5) z0[k]) := Lib.hid fun W hW => by
        obtain ⟨b1, o1, e1, -, h1⟩ := HY.out.at' (HQW.out ▸ hW) k hkz
        injection e1 with e1; injection e1 with e1 e2 _
        subst e1 e2
        exact h1
      generalize z0[k] = d at *
      clear hA0
      obtain ⟨a, ha⟩ : ∃ a, a = pA d.P := ⟨_, rfl⟩
      obtain ⟨m, hm⟩ : ∃ m, m = pN d.P := ⟨_, rfl⟩
      obtain ⟨s, hs⟩ : ∃ s, s = d.Q % 4 := ⟨_, rfl⟩
      have CP : Hid (∀ W, Calls Try.prog 17 #[.int .u8 (d.P : Int)] W fun e w' => e = .returned (.agg #[.int .u32 (a : Int), .int .u8 (m : Int)]) ∧ Below W.heap.size W w') := Lib.hid fun W => by rw [ha, hm]; exact Src.prefix_n d.P HDO.out.P W
      have hQ := HDO.out.Q
      have HQT : Hid ((d.Q : Int).tmod 4 = (s : Int)) := Lib.hid (by rw [Int.tmod_eq_emod_of_nonneg (by omega)]; omega)
      have hwq : IntKind.u16.wrap (d.Q : Int) = (d.Q : Int) := by rw [IntKind.wrap_u16]; omega
      have CL : Hid (∀ W, SrcAt q W q f c → q ≤ W.heap.size → Calls Try.prog 22 #[.pointer (some ⟨q, 0, none⟩), .agg #[.int .u32 (a : Int), .int .u8 (m : Int)], .agg #[.int .u16 (s : Int), .int .u16 (d.M : Int)]] W fun e w' => ∃ n f' c', e = .returned (.int .i64 n) ∧ SrcAt q w' q f' c' ∧ Below q W w' ∧ c' ≤ c + 1 ∧ ∀ a n y, f' a n = some y → y.1 < 4) := Lib.hid fun W hW hl => by
        have hs4 : s < 4 := by omega
        have hf4 := HS.out.2.2.2
        have h1 : a < 4294967296 := by rw [ha]; exact Src.pA_lt _
        have h2 : m < 256 := by rw [hm]; have := Src.pN_le d.P; omega
        have h3 : Pre.right a m = true := by rw [ha, hm]; exact Src.p_right _
        by_cases h5 : d.M = 65535
        · rw [h5]
          exact (Src.Lower_end W q a m h1 h2 h3 s).mono fun e w' ⟨e1, e2⟩ => ⟨1, f, c, e1, hW.below e2, e2.mono hl, by omega, hf4⟩
        · exact (Src.Lower_any W q f c hW hl a m h1 h2 h3 s d.M (by have := HDO.out.M; omega) (by have := HS.out.2.2.1; omega)).mono fun e w' ⟨e1, e2, e3⟩ => ⟨0, _, _, e1, e2, e3.below, by split <;> omega, fun b k y hy => best4 hf4 hs4 hy⟩
      clear ha hm hs
      go_upto_region 5 with (fail)
      have HSD := Lib.hid (HS.out.1.below ((Below.refl wr.heap.size wr).drew))
      refine wp_region_noPanic ?_
      refine wp_region_held_drew (S := fun y : World => Below q w y) (by kernel_rfl) HS.out.2.1.drew (fun hHeld => ?_)
      generalize wr.drew = wd at *
      refine wpAnyH_take (i := 0) (oi := { dst := some 12, op := Op.move (Operand.tmp 3), type := 46, pos := "law.go:141", after := #[], guard := none }) (v := .pointer (some ⟨q, 0, none⟩)) rfl (by kernel_rfl) (by kernel_rfl) (by kernel_rfl) (fun _ _ _ h => h) (Or.inl ⟨by rfl, fun w hSw => by go_simp⟩) (by assumption) ?_
      try simp only [Act.put, List.setIfInBounds_toArray, List.set_cons_zero, List.set_cons_succ]
      refine wpAnyH_take (i := 1) (oi := { dst := some 13, op := Op.move (Operand.tmp 0), type := 22, pos := "law.go:141", after := #[], guard := none }) (v := .slice (some ⟨b0, o0, none⟩) len0 cap0) rfl (by kernel_rfl) (by kernel_rfl) (by kernel_rfl) (fun _ _ _ h => h) (Or.inl ⟨by rfl, fun w hSw => by go_simp⟩) (by assumption) ?_
      try simp only [Act.put, List.setIfInBounds_toArray, List.set_cons_zero, List.set_cons_succ]
      refine wpAnyH_take (i := 2) (oi := { dst := some 14, op := Op.move (Operand.tmp 4), type := 3, pos := "law.go:141", after := #[], guard := none }) (v := .int .i64 (k : Int)) rfl (by kernel_rfl) (by kernel_rfl) (by kernel_rfl) (fun _ _ _ h => h) (Or.inl ⟨by rfl, fun w hSw => by go_simp⟩) (by assumption) ?_
      try simp only [Act.put, List.setIfInBounds_toArray, List.set_cons_zero, List.set_cons_succ]
      refine wpAnyH_take (i := 3) (oi := { dst := some 15, op := Op.indexAddr 22 (Operand.tmp 13) (Operand.tmp 14), type := 0, pos := "law.go:141", after := #[{ on := 1, ground := Ground.data }, { on := 2, ground := Ground.data }], guard := none }) (v := .pointer (some ⟨b0, o0 + k * 5, none⟩)) rfl (by kernel_rfl) (by kernel_rfl) (by kernel_rfl) (fun _ _ _ h => h) (Or.inl ⟨by rfl, fun w hSw => by go_simp⟩) (by assumption) ?_
      try simp only [Act.put, List.setIfInBounds_toArray, List.set_cons_zero, List.set_cons_succ]
      refine wpAnyH_take (i := 4) (oi := { dst := some 16, op := Op.fieldAddr 34 (Operand.tmp 15) 2, type := 0, pos := "law.go:141", after := #[{ on := 3, ground := Ground.data }], guard := none }) (v := .pointer (some ⟨b0, o0 + k * 5 + 2, none⟩)) rfl (by kernel_rfl) (by kernel_rfl) (by kernel_rfl) (fun _ _ _ h => h) (Or.inl ⟨by rfl, fun w hSw => by go_simp⟩) (by assumption) ?_
      try simp only [Act.put, List.setIfInBounds_toArray, List.set_cons_zero, List.set_cons_succ]
      refine wpAnyH_take (i := 5) (oi := { dst := some 17, op := Op.load 5 (Operand.tmp 16), type := 5, pos := "law.go:141", after := #[{ on := 4, ground := Ground.data }], guard := none }) (v := .int .u8 (d.P : Int)) rfl (by kernel_rfl) (by kernel_rfl) (by kernel_rfl) (fun _ _ _ h => h) (Or.inl ⟨by rfl, fun w hSw => by obtain ⟨k0, k1, k2, k3, k4, -⟩ := HAC.out _ hSw; go_simp⟩) (by assumption) ?_
      try simp only [Act.put, List.setIfInBounds_toArray, List.set_cons_zero, List.set_cons_succ]
      refine wpAnyH_take (i := 7) (oi := { dst := some 19, op := Op.move (Operand.tmp 0), type := 22, pos := "law.go:141", after := #[], guard := none }) (v := .slice (some ⟨b0, o0, none⟩) len0 cap0) rfl (by kernel_rfl) (by kernel_rfl) (by kernel_rfl) (fun _ _ _ h => h) (Or.inl ⟨by rfl, fun w hSw => by go_simp⟩) (by assumption) ?_
      try simp only [Act.put, List.setIfInBounds_toArray, List.set_cons_zero, List.set_cons_succ]
      refine wpAnyH_take (i := 8) (oi := { dst := some 20, op := Op.move (Operand.tmp 4), type := 3, pos := "law.go:141", after := #[], guard := none }) (v := .int .i64 (k : Int)) rfl (by kernel_rfl) (by kernel_rfl) (by kernel_rfl) (fun _ _ _ h => h) (Or.inl ⟨by rfl, fun w hSw => by go_simp⟩) (by assumption) ?_
      try simp only [Act.put, List.setIfInBounds_toArray, List.set_cons_zero, List.set_cons_succ]
      refine wpAnyH_take (i := 9) (oi := { dst := some 21, op := Op.indexAddr 22 (Operand.tmp 19) (Operand.tmp 20), type := 0, pos := "law.go:141", after := #[{ on := 7, ground := Ground.data }, { on := 8, ground := Ground.data }], guard := none }) (v := .pointer (some ⟨b0, o0 + k * 5, none⟩)) rfl (by kernel_rfl) (by kernel_rfl) (by kernel_rfl) (fun _ _ _ h => h) (Or.inl ⟨by rfl, fun w hSw => by go_simp⟩) (by assumption) ?_
      try simp only [Act.put, List.setIfInBounds_toArray, List.set_cons_zero, List.set_cons_succ]
      refine wpAnyH_take (i := 10) (oi := { dst := some 22, op := Op.fieldAddr 34 (Operand.tmp 21) 3, type := 0, pos := "law.go:141", after := #[{ on := 9, ground := Ground.data }], guard := none }) (v := .pointer (some ⟨b0, o0 + k * 5 + 3, none⟩)) rfl (by kernel_rfl) (by kernel_rfl) (by kernel_rfl) (fun _ _ _ h => h) (Or.inl ⟨by rfl, fun w hSw => by go_simp⟩) (by assumption) ?_
      try simp only [Act.put, List.setIfInBounds_toArray, List.set_cons_zero, List.set_cons_succ]
      refine wpAnyH_take (i := 11) (oi := { dst := some 23, op := Op.load 5 (Operand.tmp 22), type := 5, pos := "law.go:141", after := #[{ on := 10, ground := Ground.data }], guard := none }) (v := .int .u8 (d.Q : Int)) rfl (by kernel_rfl) (by kernel_rfl) (by kernel_rfl) (fun _ _ _ h => h) (Or.inl ⟨by rfl, fun w hSw => by obtain ⟨k0, k1, k2, k3, k4, -⟩ := HAC.out _ hSw; go_simp⟩) (by assumption) ?_
      try simp only [Act.put, List.setIfInBounds_toArray, List.set_cons_zero, List.set_cons_succ]
      refine wpAnyH_take (i := 12) (oi := { dst := some 24, op := Op.convert 5 32 (Operand.tmp 23), type := 32, pos := "law.go:141", after := #[{ on := 11, ground := Ground.data }], guard := none }) (v := .int .u16 (d.Q : Int)) rfl (by kernel_rfl) (by kernel_rfl) (by kernel_rfl) (fun _ _ _ h => h) (Or.inl ⟨by rfl, fun w hSw => by go_simp⟩) (by assumption) ?_
      try simp only [Act.put, List.setIfInBounds_toArray, List.set_cons_zero, List.set_cons_succ]
      refine wpAnyH_take (i := 13) (oi := { dst := some 25, op := Op.binOp BinOp.rem 32 (Operand.tmp 24) (Operand.const (Value.int IntKind.u16 4)) 32, type := 32, pos := "law.go:141", after := #[{ on := 12, ground := Ground.data }], guard := none }) (v := .int .u16 (s : Int)) rfl (by kernel_rfl) (by kernel_rfl) (by kernel_rfl) (fun _ _ _ h => h) (Or.inl ⟨by rfl, fun w hSw => by go_simp; exact HQT.out⟩) (by assumption) ?_
      try simp only [Act.put, List.setIfInBounds_toArray, List.set_cons_zero, List.set_cons_succ]
      refine wpAnyH_take (i := 14) (oi := { dst := some 26, op := Op.move (Operand.tmp 0), type := 22, pos := "law.go:141", after := #[], guard := none }) (v := .slice (some ⟨b0, o0, none⟩) len0 cap0) rfl (by kernel_rfl) (by kernel_rfl) (by kernel_rfl) (fun _ _ _ h => h) (Or.inl ⟨by rfl, fun w hSw => by go_simp⟩) (by assumption) ?_
      try simp only [Act.put, List.setIfInBounds_toArray, List.set_cons_zero, List.set_cons_succ]
      refine wpAnyH_take (i := 15) (oi := { dst := some 27, op := Op.move (Operand.tmp 4), type := 3, pos := "law.go:141", after := #[], guard := none }) (v := .int .i64 (k : Int)) rfl (by kernel_rfl) (by kernel_rfl) (by kernel_rfl) (fun _ _ _ h => h) (Or.inl ⟨by rfl, fun w hSw => by go_simp⟩) (by assumption) ?_
      try simp only [Act.put, List.setIfInBounds_toArray, List.set_cons_zero, List.set_cons_succ]
      refine wpAnyH_take (i := 16) (oi := { dst := some 28, op := Op.indexAddr 22 (Operand.tmp 26) (Operand.tmp 27), type := 0, pos := "law.go:141", after := #[{ on := 14, ground := Ground.data }, { on := 15, ground := Ground.data }], guard := none }) (v := .pointer (some ⟨b0, o0 + k * 5, none⟩)) rfl (by kernel_rfl) (by kernel_rfl) (by kernel_rfl) (fun _ _ _ h => h) (Or.inl ⟨by rfl, fun w hSw => by go_simp⟩) (by assumption) ?_
      try simp only [Act.put, List.setIfInBounds_toArray, List.set_cons_zero, List.set_cons_succ]
      refine wpAnyH_take (i := 17) (oi := { dst := some 29, op := Op.fieldAddr 34 (Operand.tmp 28) 4, type := 0, pos := "law.go:141", after := #[{ on := 16, ground := Ground.data }], guard := none }) (v := .pointer (some ⟨b0, o0 + k * 5 + 4, none⟩)) rfl (by kernel_rfl) (by kernel_rfl) (by kernel_rfl) (fun _ _ _ h => h) (Or.inl ⟨by rfl, fun w hSw => by go_simp⟩) (by assumption) ?_
      try simp only [Act.put, List.setIfInBounds_toArray, List.set_cons_zero, List.set_cons_succ]
      refine wpAnyH_take (i := 18) (oi := { dst := some 30, op := Op.load 32 (Operand.tmp 29), type := 32, pos := "law.go:141", after := #[{ on := 17, ground := Ground.data }], guard := none }) (v := .int .u16 (d.M : Int)) rfl (by kernel_rfl) (by kernel_rfl) (by kernel_rfl) (fun _ _ _ h => h) (Or.inl ⟨by rfl, fun w hSw => by obtain ⟨k0, k1, k2, k3, k4, -⟩ := HAC.out _ hSw; go_simp⟩) (by assumption) ?_
      try simp only [Act.put, List.setIfInBounds_toArray, List.set_cons_zero, List.set_cons_succ]
      refine wpAnyH_take (i := 19) (oi := { dst := some 31, op := Op.build 41 #[(0, Operand.tmp 25), (1, Operand.tmp 30)], type := 41, pos := "law.go:141", after := #[{ on := 13, ground := Ground.data }, { on := 18, ground := Ground.data }], guard := none }) (v := .agg #[.int .u16 (s : Int), .int .u16 (d.M : Int)]) rfl (by kernel_rfl) (by kernel_rfl) (by kernel_rfl) (fun _ _ _ h => h) (Or.inl ⟨by rfl, fun w hSw => by go_simp⟩) (by assumption) ?_
      try simp only [Act.put, List.setIfInBounds_toArray, List.set_cons_zero, List.set_cons_succ]
      refine wpAnyH_ready (rs := [6]) (by kernel_rfl) (by simp) ?_
      refine AllReadyH.cons (o := { dst := some 18, op := Op.call { callee := Callee.value (Operand.func 17), args := #[Operand.tmp 17], argTypes := #[5] }, type := 39, pos := "law.go:141", after := #[{ on := 5, ground := Ground.data }], guard := none }) rfl (fun K hK => ?_) AllReadyH.nil
      go_simp
      with_reducible refine (CP.out _).mono ?_
      rintro en wn ⟨rfl, hB⟩
      have hS2 := hHeld.trans (hB.mono (by have h1 := hHeld.size; have h2 := HQW.out; omega))
      replace HSD := Lib.hid (HSD.out.below hB)
      refine hK.out _ _ (hS2) (fun hHeld2 => ?_)
      clear hK K hHeld
      have hHeld := hHeld2
      clear hHeld2
      try simp only [Act.put, List.setIfInBounds_toArray, List.set_cons_zero, List.set_cons_succ]
      clear hB hS2 wd
      generalize wn = wd at *
      refine wpAnyH_ready (rs := [20]) (by kernel_rfl) (by simp) ?_
      refine (AllReadyH.cons (o := { dst := some 32, op := Op.call { callee := Callee.value (Operand.func 22), args := #[Operand.tmp 12, Operand.tmp 18, Operand.tmp 31], argTypes := #[46, 39, 41] }, type := 61, pos := "law.go:141", after := #[{ on := 0, ground := Ground.data }, { on := 6, ground := Ground.data }, { on := 19, ground := Ground.data }, { on := 6, ground := Ground.chain }], guard := none }) rfl (fun K hK => ?_) AllReadyH.nil)
      go_simp
      with_reducible refine (CL.out _ HSD.out (by have h1 := hHeld.size; have h2 := HQW.out; omega)).mono ?_
      rintro en wn ⟨n9, f9, c9, rfl, S9, B9, hc9, h94⟩
      have hS2 := hHeld.trans B9
      have H9 := Lib.hid (And.intro S9 (And.intro hc9 h94))
      clear S9 B9 hc9 h94
      refine hK.out _ _ hS2 (fun hHeld2 => ?_)
      clear hK K hHeld hS2
      have hHeld := hHeld2
      clear hHeld2
      try simp only [Act.put, List.setIfInBounds_toArray, List.set_cons_zero, List.set_cons_succ]
      refine wpAnyH_done (by kernel_rfl) ?_ _
      try unfold NoPanic
      have HB := Lib.hid hHeld
      clear hHeld
      go_wp2
      go_roundw
      case rel => exact ⟨k + 1, by omega, by go_num, f9, c9, H9.out.1, HB.out, by have := H9.out.2.1; have := HS.out.2.2.1; omega, H9.out.2.2⟩
      case measure => simp [intOf]; omega
    · obtain rfl : k = len0 := by omega
      go_wp2
      go_ret
      exact ⟨q, f, c, rfl, by rw [HQW.out]; exact HS.out⟩
end Go.Proofs.Ytkbhmdoichiinaa.Rts
