/- First and awake. -/
import Derived.Test.YtldaggcopbnehaaSe
import Derived.Lib.QuietBelow
namespace Go.Proofs.Ytldaggcopbnehaa.Src
open Pre Ser
open Go.ChangeShapes Go.WideShapes Go.ChangeAt Go.RowKit Go.Sort
set_option maxRecDepth 8000
variable {lo : Nat}
set_option maxHeartbeats 1000000 in
theorem first_n (n : Nat) (u : World) :
    Calls Try.prog 8 #[pv (pA n) (pN n)] u fun e w' => e = .returned (.int .i64 (fk n : Nat)) ∧ Below u.heap.size u w' := by
  have B1 := (Below.refl u.heap.size u).alloc (Nat.le_refl _) (.cells #[.int .u32 (pA n : Nat), .int .u8 (pN n : Nat)] 34)
  have L0 := Lib.hid (And.intro B1 (heap_alloc_new u (.cells #[.int .u32 (pA n : Nat), .int .u8 (pN n : Nat)] 34)))
  clear B1
  obtain ⟨F, hF⟩ : ∃ F, F = fk n := ⟨_, rfl⟩
  obtain ⟨a, hA⟩ : ∃ a, a = pA n := ⟨_, rfl⟩
  obtain ⟨k, hN⟩ : ∃ k, k = pN n := ⟨_, rfl⟩
  have HF : Hid (F < 18 ∧ pA F = a ∧ pN F = k ∧ ∀ j, j < F → ¬ (pA j = a ∧ pN j = k)) := Lib.hid ⟨hF ▸ fk_lt n, by rw [hF, hA, fk_A], by rw [hF, hN, fk_N], fun j hj => by rw [hA, hN]; exact fk_first n j (hF ▸ hj)⟩
  unfold pv
  rw [← hF, ← hA, ← hN]
  rw [← hA, ← hN] at L0
  clear hF hA hN
  go_enter Try.func8, Try.ntmps8
  go_wp2
  generalize u.alloc _ = w1 at *
  go_loopw [3] (fun i wr => ∃ j : Nat, j ≤ F ∧ i = .int .i64 j ∧ Hid (Below u.heap.size u wr ∧ wr.heap[u.heap.size]? = some (.cells #[.int .u32 (a : Int), .int .u8 (k : Int)] 34 (0, 0)))) (fun i _ => F - (intOf i).toNat)
  case atStart => exact ⟨0, Nat.zero_le _, rfl, L0⟩
  case round =>
    obtain ⟨j, hj, rfl, HL⟩ := hrel
    clear L0
    have h18 : j < 18 := by have := HF.out.1; omega
    have hw : IntKind.u8.wrap (j : Int) = j := by rw [IntKind.wrap_u8]; omega
    obtain ⟨p0, p1, -⟩ := row2 HL.out.2
    have k0 := cell_regrown p0
    have k1 := cell_regrown p1
    obtain ⟨aj, haj⟩ : ∃ aj, aj = pA j := ⟨_, rfl⟩
    obtain ⟨kj, hkj⟩ : ∃ kj, kj = pN j := ⟨_, rfl⟩
    have cP : ∀ d os, Calls Try.prog 9 #[.int .u8 j] (grow (redrawn wr d) os) fun e w'' => e = .returned (.agg #[.int .u32 (aj : Int), .int .u8 (kj : Int)]) ∧ ∃ p : Regrown, w'' = grow (redrawn wr p.d) p.os := fun d os => by rw [haj, hkj]; exact Calls.regrown_of (prefix_n j (by omega) _)
    clear p0 p1
    rcases Nat.lt_or_ge j F with hlt | hge
    · have hne : ¬ ((aj : Int) = a ∧ (kj : Int) = k) := by
        have := HF.out.2.2.2 j hlt
        rw [haj, hkj]
        omega
      clear haj hkj
      go_upto_region 4 with (fail)
      refine wp_region_quiet_below (by kernel_rfl) (by kernel_rfl) ?_
      repeat (quiet_step (with_reducible exact cP _ _))
      refine wpQuiet_step (fun K hK => ?_)
      go_simp
      refine ⟨.bool false, fun p => ?_, hK _ ?_⟩
      · by_cases h1 : (aj : Int) = a
        · have h2 : ¬ (kj : Int) = k := fun h2 => hne ⟨h1, h2⟩
          simp only [if_pos h1, if_neg h2]
          exact ⟨trivial, trivial⟩
        · simp only [if_neg h1]
          exact ⟨trivial, trivial⟩
      clear hK K
      refine wpQuiet_nil ?_
      intro _ hw'
      obtain ⟨⟨dq, osq⟩, hw''⟩ := hw'
      subst hw''
      have HB := Lib.hid (below_regrown wr dq osq)
      clear k0 k1 cP
      go_wp2
      go_roundw
      case rel => exact ⟨j + 1, hlt, by go_num, ⟨HL.out.1.trans (HB.out.mono HL.out.1.size), (HB.out.block _ (Array.getElem?_eq_some_iff.1 HL.out.2).1).trans HL.out.2⟩⟩
      case measure => simp [intOf]; omega
    · obtain rfl : j = F := by omega
      obtain rfl : aj = a := by rw [haj, HF.out.2.1]
      obtain rfl : kj = k := by rw [hkj, HF.out.2.2.1]
      clear haj hkj
      go_upto_region 4 with (fail)
      refine wp_region_quiet_below (by kernel_rfl) (by kernel_rfl) ?_
      repeat (quiet_step (with_reducible exact cP _ _))
      refine wpQuiet_nil ?_
      intro _ hw'
      obtain ⟨⟨dq, osq⟩, hw''⟩ := hw'
      subst hw''
      have HB := Lib.hid (below_regrown wr dq osq)
      clear k0 k1 cP
      go_wp2
      go_ret
      exact ⟨rfl, HL.out.1.trans (HB.out.mono HL.out.1.size)⟩
/-- The example's marks. -/
def fEx : Mk := Mk.put (fun _ _ => none) 167772160 8 (1, 96)
theorem feas_ex : fEx.feas 167772160 8 (1, 95) = true ∧ fEx.feas 167772160 8 (2, 500) = true ∧ fEx.feas 167772160 8 (1, 96) = false := by decide +kernel
theorem awake_any (u : World) : Calls Try.prog 6 #[] u fun e w' => e = .returned (.bool true) ∧ Below u.heap.size u w' := by
  have HL : Hid (∀ lo W q, SrcAt lo W q (fun _ _ => none) 0 → lo ≤ W.heap.size → Calls Try.prog 11 #[.pointer (some ⟨q, 0, none⟩), .agg #[.int .u32 167772160, .int .u8 8], .agg #[.int .u16 1, .int .u16 96]] W fun e w' => e = .returned (.int .i64 0) ∧ SrcAt lo w' q fEx 1 ∧ K lo W w') :=
    Lib.hid fun lo W q h hl => Lower_any W q _ 0 h hl 167772160 8 (by omega) (by omega) (by decide +kernel) 1 96 (by omega) (by omega)
  have HA : Hid (∀ lo W q, SrcAt lo W q fEx 1 → Calls Try.prog 15 #[.pointer (some ⟨q, 0, none⟩), .agg #[.int .u32 167772160, .int .u8 8], .agg #[.int .u16 1, .int .u16 95]] W fun e w' => e = .returned (.bool true) ∧ Below W.heap.size W w') :=
    Lib.hid fun lo W q h => feas_ex.1 ▸ feas_any W q _ 1 h 167772160 8 (by omega) (by omega) (1, 95)
  have HB : Hid (∀ lo W q, SrcAt lo W q fEx 1 → Calls Try.prog 15 #[.pointer (some ⟨q, 0, none⟩), .agg #[.int .u32 167772160, .int .u8 8], .agg #[.int .u16 2, .int .u16 500]] W fun e w' => e = .returned (.bool true) ∧ Below W.heap.size W w') :=
    Lib.hid fun lo W q h => feas_ex.2.1 ▸ feas_any W q _ 1 h 167772160 8 (by omega) (by omega) (2, 500)
  have HC : Hid (∀ lo W q, SrcAt lo W q fEx 1 → Calls Try.prog 15 #[.pointer (some ⟨q, 0, none⟩), .agg #[.int .u32 167772160, .int .u8 8], .agg #[.int .u16 1, .int .u16 96]] W fun e w' => e = .returned (.bool false) ∧ Below W.heap.size W w') :=
    Lib.hid fun lo W q h => feas_ex.2.2 ▸ feas_any W q _ 1 h 167772160 8 (by omega) (by omega) (1, 96)
  go_enter Try.func6, Try.ntmps6
  go_wp2_with (first
    | (go_at_call 7; (with_reducible refine (New_any _).mono ?_); rintro e w1 ⟨rfl, S1, B1⟩; have H1 := Lib.hid (And.intro (S1.below ((Below.refl _ _).alloc (Nat.le_refl _) (.cells #[.int .u32 167772160, .int .u8 8] 34))) (And.intro (B1.alloc B1.size (.cells #[.int .u32 167772160, .int .u8 8] 34)) (heap_alloc_new w1 (.cells #[.int .u32 167772160, .int .u8 8] 34)))); clear S1 B1)
    | (go_at_call 11; (with_reducible refine (HL.out _ _ _ H1.out.1 H1.out.2.1.size).mono ?_); rintro e w2 ⟨rfl, S2, K2⟩; have H2 := Lib.hid (And.intro S2 (And.intro (H1.out.2.1.trans K2.below) (K2.cells _ _ _ _ H1.out.2.2 (by decide)))); clear S2 K2; obtain ⟨p0, p1, -⟩ := row2 H2.out.2.2; have hz2 : w1.heap.size < w2.heap.size := (Array.getElem?_eq_some_iff.1 H2.out.2.2).1)
    | (go_at_call 15; (with_reducible refine (HA.out _ _ _ H2.out.1).mono ?_); rintro e w3 ⟨rfl, B3⟩; have H3 := Lib.hid (And.intro (H2.out.1.below B3) (And.intro (H2.out.2.1.trans (B3.mono H2.out.2.1.size)) ((B3.block _ (Array.getElem?_eq_some_iff.1 H2.out.2.2).1).trans H2.out.2.2))); clear B3 p0 p1; obtain ⟨p0, p1, -⟩ := row2 H3.out.2.2; have hz3 : w1.heap.size < w3.heap.size := (Array.getElem?_eq_some_iff.1 H3.out.2.2).1)
    | (go_at_call 15; (with_reducible refine (HB.out _ _ _ H3.out.1).mono ?_); rintro e w4 ⟨rfl, B4⟩; have H4 := Lib.hid (And.intro (H3.out.1.below B4) (And.intro (H3.out.2.1.trans (B4.mono H3.out.2.1.size)) ((B4.block _ (Array.getElem?_eq_some_iff.1 H3.out.2.2).1).trans H3.out.2.2))); clear B4 p0 p1; obtain ⟨p0, p1, -⟩ := row2 H4.out.2.2; have hz4 : w1.heap.size < w4.heap.size := (Array.getElem?_eq_some_iff.1 H4.out.2.2).1)
    | (go_at_call 15; (with_reducible refine (HC.out _ _ _ H4.out.1).mono ?_); rintro e w5 ⟨rfl, B5⟩; have H5 := Lib.hid (H4.out.2.1.trans (B5.mono H4.out.2.1.size)); clear B5))
  go_ret
  exact ⟨rfl, H5.out⟩
end Go.Proofs.Ytldaggcopbnehaa.Src
