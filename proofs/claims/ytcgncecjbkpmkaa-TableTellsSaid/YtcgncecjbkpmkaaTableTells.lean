/-
  'For every input the Go function milestonelaw08.TableTells returns true, and each argument reads behind the call as it read before.'
  Conditions: none but the row's own (linux/amd64, sizes of what is read within the address space).
-/
import Derived.Test.YtcgncecjbkpmkaaRows
import Derived.WalkKit
import Derived.ProofKit
import Derived.OpenShut
import Derived.ShutString
import Derived.ChangeOld
import Derived.Below
import Derived.Lib.SmallJoins
import Derived.Lib.Hide
import Derived.Test.YtcgncecjbkpmkaaKw
import Derived.Test.YtcgncecjbkpmkaaKx
import Derived.Test.YtcgncecjbkpmkaaHo
namespace Go.Proofs.Ytcgncecjbkpmkaa.tableTells
open Pre
open Ser
open Chg
open Tab
open Go.ChangeShapes Go.WideShapes Go.ChangeAt Go.RowKit
open Go.ChangeMaps (open_string shut_string)
set_option linter.unusedVariables false

theorem own : ownKnob Try.prog.godebug = none := by kernel_rfl
theorem laidOut : laidOutB Try.prog = true := by kernel_rfl

set_option maxRecDepth 100000 in
set_option maxHeartbeats 4000000 in
theorem walk (a0 : Option Addr) (len0 cap0 : Nat) (z0 : List ActD) (w : World) (w0 : IsActs w a0 len0 cap0 z0) :
    Calls Try.prog 3 #[.slice a0 len0 cap0] w fun e w' => e = .returned (.bool true) ∧ Below w.heap.size w w' := by
  obtain ⟨hl1, hl2, hl3, HA, hnil⟩ := w0
  unfold maxLen at hl3
  by_cases h2 : 60 < len0
  · have h2' : (60 : Int) < len0 := by omega
    clear h2 hl1 HA
    go_enter Try.func3, Try.ntmps3
    go_wp2_with fail
    refine (awake_any _).mono ?_
    rintro e w1 ⟨rfl, h1⟩
    go_wp2_with fail
    refine (awake_any _).mono ?_
    rintro e w2 ⟨rfl, h2⟩
    go_wp2_with fail
    go_ret
    exact ⟨rfl, h1.trans (h2.mono h1.size)⟩
  have h2' : ¬ (60 : Int) < len0 := by omega
  have hl60 : len0 ≤ 60 := by omega
  have HL := Lib.hid (And.intro hl1 HA)
  clear h2 hl1 HA hnil
  go_enter Try.func3, Try.ntmps3
  go_upto_region 8 with (first
    | (go_at_call 6; (with_reducible refine (awake_any _).mono ?_); rintro e w1 ⟨rfl, B1⟩; have HB1 := Lib.hid B1; clear B1)
    | (go_at_call 7; (with_reducible refine (history_exact _ a0 len0 cap0 z0 HL.out.1 hl60 (HL.out.2.below HB1.out)).mono ?_); rintro e w2 ⟨v2, cs, rfl, O2, L2, G2, B2⟩; obtain ⟨A1, c1, hv2, hsl, -⟩ := O2.form; rw [L2] at hv2; subst hv2; have HH := Lib.hid (And.intro hsl (And.intro L2 (And.intro (G2.gd (by have := HL.out.1; omega)) (HB1.out.trans (B2.mono HB1.out.size))))); clear O2 L2 G2 B2 hsl)
    | (go_at_call 8; (with_reducible refine (of_any _ A1 len0 c1 cs HH.out.2.1.symm hl60 HH.out.1 HH.out.2.2.1).mono ?_); rintro e w3 ⟨q, v3, rfl, T3, B3⟩; have HT := Lib.hid (And.intro T3 (And.intro B3 (HH.out.2.2.2.trans (B3.mono HH.out.2.2.2.size)))); clear T3 B3)
    | (go_at_call 9; (with_reducible refine (last_any _ _ q _ v3 HT.out.1).mono ?_); rintro e w4 ⟨rfl, B4⟩; have HB4 := Lib.hid B4; clear B4))
  have hto := take_ok HH.out.2.2.1 cs.length (Nat.le_refl _)
  rw [List.take_length, HH.out.2.1] at hto
  have hno := hto.2.2
  have hlr := hto.2.1
  have HTO := Lib.hid hto
  obtain ⟨tm, htm⟩ : ∃ tm, tm = (tabOf cs).time := ⟨_, rfl⟩
  rw [hno, ← htm]
  clear hto hno
  have HTM : Hid (∀ hp : len0 - 1 < cs.length, 0 < len0 → tm = cs[len0 - 1].time) := fun hp h0 => by
    rw [htm]
    have e : tabOf cs = (tabOf (cs.take (len0 - 1))).put cs[len0 - 1] := by
      rw [← tabOf_take cs (len0 - 1) hp, List.take_of_length_le (by rw [HH.out.2.1]; omega)]
    rw [e]
    rfl
  clear htm
  by_cases h0 : 0 < len0
  · obtain ⟨lm, hlm, hlm2⟩ : ∃ lm : Nat, (len0 : Int) - 1 = lm ∧ lm = len0 - 1 := ⟨len0 - 1, by omega, rfl⟩
    have hp : lm < cs.length := by rw [HH.out.2.1]; omega
    have hsl4 := (HH.out.1.below HT.out.2.1).below HB4.out
    obtain ⟨bb, oo, ea, hb, hca⟩ := hsl4 lm hp
    subst ea
    have htt : tm = cs[lm].time := by
      subst hlm2
      exact HTM.out hp h0
    obtain ⟨g0, g1, g2, g3, g4, g5, g6, g7⟩ := hca
    rw [← htt] at g1
    have hll : lm < len0 := by omega
    have hnz : ¬ len0 = 0 := by omega
    clear g0 g2 g3 g4 g5 g6 g7 hlm2 htt HTM hsl4
    go_upto_region 10 with (fail)
    clear g1 hb hlm hll hp
    generalize hA1 : (some (⟨bb, oo, none⟩ : Addr)) = A1 at *
    clear hA1
    have HW0 : Hid (Below w3.heap.size w3 w4) := HB4
    go_wp2
    go_loopw [7] (fun i wr => ∃ j : Nat, j ≤ 18 ∧ i = .int .i64 j ∧ Below w3.heap.size w3 wr) (fun i _ => 18 - (intOf i).toNat)
    case atStart => exact ⟨0, by omega, rfl, HW0.out⟩
    case round =>
      obtain ⟨j, hj, rfl, HR⟩ := hrel
      by_cases hlt : j < 18
      · obtain ⟨a, k, ha, hk, -, c10⟩ := prefix_any j (by omega)
        have hw : IntKind.u8.wrap (j : Int) = j := by rw [IntKind.wrap_u8]; omega
        rcases tell_row HH.out.2.2.1 a k (by omega) with ⟨r, h1, h2, h3⟩ | ⟨h1, h2⟩
        · have HRW : Hid (∀ W, Below w3.heap.size w3 W → Calls Try.prog 12 #[.slice A1 len0 c1, .agg #[.int .u32 (a : Int), .int .u8 (k : Int)]] W fun e w' => e = .returned (.tuple #[.agg #[.int .u32 (r.addr : Int), .int .u8 (r.len : Int), .bool r.has, .int .u32 (r.addr : Int), .int .u8 (r.len : Int), .int .i64 (r.via : Int), .int .u16 (r.metric : Int), .int .u16 (r.seq : Int), .int .u16 (r.ms : Int), .int .u16 (r.mm : Int)], .bool true]) ∧ Below W.heap.size W w') := fun W hW => by
            have h4 := row_exact W A1 len0 c1 cs HH.out.2.1.symm hl60 ((HH.out.1.below HT.out.2.1).below hW) (gd_bounds HH.out.2.2.1) a k
            rw [h2, h3] at h4
            exact h4
          have HTR : Hid (∀ W, TabAt W w2.heap.size q (tabOf cs) v3 → Calls Try.prog 11 #[.pointer (some ⟨q, 0, none⟩), .agg #[.int .u32 (a : Int), .int .u8 (k : Int)]] W fun e w' => e = .returned (.tuple #[.agg #[.int .u32 (r.addr : Int), .int .u8 (r.len : Int), .bool r.has, .int .u32 (r.addr : Int), .int .u8 (r.len : Int), .int .i64 (r.via : Int), .int .u16 (r.metric : Int), .int .u16 (r.seq : Int), .int .u16 (r.ms : Int), .int .u16 (r.mm : Int)], .bool true]) ∧ Below W.heap.size W w') := fun W hW => trow_yes W w2.heap.size q (tabOf cs) v3 hW HTO.out.1 (by have := HTO.out.2.1; omega) a k (by omega) r h1
          clear h1 h2 h3
          go_wp2_with (first
            | (go_at_call 10; (with_reducible refine (c10 _).mono ?_); rintro e w5 ⟨rfl, B5⟩; have HB5 := Lib.hid (HR.trans (B5.mono HR.size)); clear B5)
            | (go_at_call 11; (with_reducible refine (HTR.out _ (HT.out.1.kept (HB5.out.alloc HB5.out.size _))).mono ?_); rintro e w6 ⟨rfl, B6⟩; have P6 := (B6.block w5.heap.size (by simp)).trans (heap_alloc_new w5 (.cells #[.int .u32 (a : Int), .int .u8 (k : Int)] 33)); obtain ⟨p0, p1⟩ := Tab.row2 P6; have e6 : w5.heap.size < w6.heap.size := (Array.getElem?_eq_some_iff.1 P6).1; have HB6 := Lib.hid ((HB5.out.alloc HB5.out.size _).trans (B6.mono (by have := HB5.out.size; simp; omega))); clear B6 P6)
            | (go_at_call 12; (with_reducible refine (HRW.out _ (HB6.out.alloc HB6.out.size _)).mono ?_); rintro e w7 ⟨rfl, B7⟩; have P7 := (B7.block w6.heap.size (by simp)).trans (heap_alloc_new w6 (.cells #[.int .u32 (r.addr : Int), .int .u8 (r.len : Int), .bool r.has, .int .u32 (r.addr : Int), .int .u8 (r.len : Int), .int .i64 (r.via : Int), .int .u16 (r.metric : Int), .int .u16 (r.seq : Int), .int .u16 (r.ms : Int), .int .u16 (r.mm : Int)] 43)); obtain ⟨⟨l0, l1, l2, l3, l4, l5, l6, l7, l8, l9⟩, lf⟩ := Tab.row10 P7; have e7 : w6.heap.size < w7.heap.size := (Array.getElem?_eq_some_iff.1 P7).1; have HB7 := Lib.hid ((HB6.out.alloc HB6.out.size _).trans (B7.mono (by have := HB6.out.size; simp; omega))); clear B7 P7 p0 p1))
          go_roundw
          case rel => exact ⟨j + 1, by omega, by go_num, HB7.out.alloc HB7.out.size _⟩
          case measure => simp [intOf]; omega
        · have HRW : Hid (∀ W, Below w3.heap.size w3 W → Calls Try.prog 12 #[.slice A1 len0 c1, .agg #[.int .u32 (a : Int), .int .u8 (k : Int)]] W fun e w' => (∃ a1 n1 v1 m1 s1 q1 q2, e = .returned (.tuple #[.agg #[.int .u32 (a : Int), .int .u8 (k : Int), .bool (rowOf cs a k).r.has, .int .u32 a1, .int .u8 n1, .int .i64 v1, .int .u16 m1, .int .u16 s1, .int .u16 q1, .int .u16 q2], .bool false])) ∧ Below W.heap.size W w') := fun W hW =>
            row_said W A1 len0 c1 cs HH.out.2.1.symm hl60 ((HH.out.1.below HT.out.2.1).below hW) (gd_bounds HH.out.2.2.1) a k false _ ⟨h2.symm, rfl⟩
          have HTR : Hid (∀ W, TabAt W w2.heap.size q (tabOf cs) v3 → Calls Try.prog 11 #[.pointer (some ⟨q, 0, none⟩), .agg #[.int .u32 (a : Int), .int .u8 (k : Int)]] W fun e w' => e = .returned (.tuple #[.agg #[.int .u32 0, .int .u8 0, .bool false, .int .u32 0, .int .u8 0, .int .i64 0, .int .u16 0, .int .u16 0, .int .u16 0, .int .u16 0], .bool false]) ∧ Below W.heap.size W w') := fun W hW => trow_no W w2.heap.size q (tabOf cs) v3 hW HTO.out.1 (by have := HTO.out.2.1; omega) a k (by omega) h1
          clear h1 h2
          generalize (rowOf cs a k).r.has = hh at *
          go_wp2_with (first
            | (go_at_call 10; (with_reducible refine (c10 _).mono ?_); rintro e w5 ⟨rfl, B5⟩; have HB5 := Lib.hid (HR.trans (B5.mono HR.size)); clear B5)
            | (go_at_call 11; (with_reducible refine (HTR.out _ (HT.out.1.kept (HB5.out.alloc HB5.out.size _))).mono ?_); rintro e w6 ⟨rfl, B6⟩; have P6 := (B6.block w5.heap.size (by simp)).trans (heap_alloc_new w5 (.cells #[.int .u32 (a : Int), .int .u8 (k : Int)] 33)); obtain ⟨p0, p1⟩ := Tab.row2 P6; have e6 : w5.heap.size < w6.heap.size := (Array.getElem?_eq_some_iff.1 P6).1; have HB6 := Lib.hid ((HB5.out.alloc HB5.out.size _).trans (B6.mono (by have := HB5.out.size; simp; omega))); clear B6 P6)
            | (go_at_call 12; (with_reducible refine (HRW.out _ (HB6.out.alloc HB6.out.size _)).mono ?_); rintro e w7 ⟨⟨a1, n1, v1, m1, s1, q1, q2, rfl⟩, B7⟩; have P7 := (B7.block w6.heap.size (by simp)).trans (heap_alloc_new w6 (.cells #[.int .u32 0, .int .u8 0, .bool false, .int .u32 0, .int .u8 0, .int .i64 0, .int .u16 0, .int .u16 0, .int .u16 0, .int .u16 0] 43)); obtain ⟨⟨l0, l1, l2, l3, l4, l5, l6, l7, l8, l9⟩, lf⟩ := Tab.row10 P7; have e7 : w6.heap.size < w7.heap.size := (Array.getElem?_eq_some_iff.1 P7).1; have HB7 := Lib.hid ((HB6.out.alloc HB6.out.size _).trans (B7.mono (by have := HB6.out.size; simp; omega))); clear B7 P7 p0 p1))
          go_roundw
          case rel => exact ⟨j + 1, by omega, by go_num, HB7.out.alloc HB7.out.size _⟩
          case measure => simp [intOf]; omega
      · obtain rfl : j = 18 := by omega
        have HSL := Lib.hid (HH.out.1.below HT.out.2.1)
        obtain ⟨m, hm⟩ : ∃ m, m = (tabOf cs).rows.length := ⟨_, rfl⟩
        have hm60 : m ≤ 60 := by have := HTO.out.2.1; omega
        obtain ⟨m2, hm2⟩ : ∃ m2, m2 = ((tabOf cs).rows.filter (·.has)).length := ⟨_, rfl⟩
        have hm260 : m2 ≤ 60 := by have := List.length_filter_le (fun r : R => r.has) (tabOf cs).rows; omega
        have HM := Lib.hid (And.intro hm hm2)
        clear hm hm2
        go_wp2_with (first
          | (go_at_call 14; (with_reducible refine (rows_any _ w2.heap.size q (tabOf cs) v3 (HT.out.1.kept HR) (by have := HM.out.1; omega)).mono ?_); rintro e w5 ⟨v5, rfl, O5, B5⟩; obtain ⟨A5, c5, hv5, hs5, -⟩ := O5.form; rw [← HM.out.1] at hv5; subst hv5; have HB5 := Lib.hid (And.intro hs5 (HR.trans (B5.mono HR.size))); clear O5 B5 hs5)
          | (go_at_call 15; (with_reducible refine (rrows_any _ A1 len0 c1 cs HH.out.2.1.symm hl60 (HSL.out.below HB5.out.2) HH.out.2.2.1).mono ?_); rintro e w6 ⟨v6, rfl, O6, B6⟩; obtain ⟨A6, c6, hv6, hs6, -⟩ := O6.form; rw [← HM.out.1] at hv6; subst hv6; have HB6 := Lib.hid (And.intro hs6 (And.intro (HB5.out.1.below B6) (HB5.out.2.trans (B6.mono HB5.out.2.size)))); clear O6 B6 hs6)
          | (go_at_call 13; (with_reducible refine (same_rows _ A5 A6 m c5 c6 (tabOf cs).rows HM.out.1 (by omega) HB6.out.2.1 HB6.out.1).mono ?_); rintro e w7 ⟨rfl, B7⟩; have HB7 := Lib.hid (HB6.out.2.2.trans (B7.mono HB6.out.2.2.size)); clear B7)
          | (go_at_call 17; (with_reducible refine (routes_any _ w2.heap.size q (tabOf cs) v3 (HT.out.1.kept HB7.out) (by have := HM.out.1; omega)).mono ?_); rintro e w8 ⟨v8, rfl, O8, B8⟩; obtain ⟨A8, c8, hv8, hs8⟩ := O8.sl; rw [← HM.out.2] at hv8; subst hv8; have HB8 := Lib.hid (And.intro hs8 (HB7.out.trans (B8.mono HB7.out.size))); clear O8 B8 hs8)
          | (go_at_call 18; (with_reducible refine (rroutes_any _ A1 len0 c1 cs HH.out.2.1.symm hl60 (HSL.out.below HB8.out.2) HH.out.2.2.1).mono ?_); rintro e w9 ⟨v9, rfl, O9, B9⟩; obtain ⟨A9, c9, hv9, hs9⟩ := O9.sl; rw [← HM.out.2] at hv9; subst hv9; have HB9 := Lib.hid (And.intro hs9 (And.intro (HB8.out.1.below B9) (HB8.out.2.trans (B9.mono HB8.out.2.size)))); clear O9 B9 hs9)
          | (go_at_call 16; (with_reducible refine (same_routes _ A8 A9 m2 c8 c9 ((tabOf cs).rows.filter (·.has)) HM.out.2 (by omega) HB9.out.2.1 HB9.out.1).mono ?_); rintro e w10 ⟨rfl, B10⟩; have HB10 := Lib.hid (HB9.out.2.2.trans (B10.mono HB9.out.2.2.size)); clear B10))
        go_ret
        exact ⟨rfl, HT.out.2.2.trans (HB10.out.mono HT.out.2.2.size)⟩
  · have hnz : len0 = 0 := by omega
    clear HTM h0
    go_upto_region 10 with (fail)
    clear hnz
    have HW0 : Hid (Below w3.heap.size w3 w4) := HB4
    go_wp2
    go_loopw [7] (fun i wr => ∃ j : Nat, j ≤ 18 ∧ i = .int .i64 j ∧ Below w3.heap.size w3 wr) (fun i _ => 18 - (intOf i).toNat)
    case atStart => exact ⟨0, by omega, rfl, HW0.out⟩
    case round =>
      obtain ⟨j, hj, rfl, HR⟩ := hrel
      by_cases hlt : j < 18
      · obtain ⟨a, k, ha, hk, -, c10⟩ := prefix_any j (by omega)
        have hw : IntKind.u8.wrap (j : Int) = j := by rw [IntKind.wrap_u8]; omega
        rcases tell_row HH.out.2.2.1 a k (by omega) with ⟨r, h1, h2, h3⟩ | ⟨h1, h2⟩
        · have HRW : Hid (∀ W, Below w3.heap.size w3 W → Calls Try.prog 12 #[.slice A1 len0 c1, .agg #[.int .u32 (a : Int), .int .u8 (k : Int)]] W fun e w' => e = .returned (.tuple #[.agg #[.int .u32 (r.addr : Int), .int .u8 (r.len : Int), .bool r.has, .int .u32 (r.addr : Int), .int .u8 (r.len : Int), .int .i64 (r.via : Int), .int .u16 (r.metric : Int), .int .u16 (r.seq : Int), .int .u16 (r.ms : Int), .int .u16 (r.mm : Int)], .bool true]) ∧ Below W.heap.size W w') := fun W hW => by
            have h4 := row_exact W A1 len0 c1 cs HH.out.2.1.symm hl60 ((HH.out.1.below HT.out.2.1).below hW) (gd_bounds HH.out.2.2.1) a k
            rw [h2, h3] at h4
            exact h4
          have HTR : Hid (∀ W, TabAt W w2.heap.size q (tabOf cs) v3 → Calls Try.prog 11 #[.pointer (some ⟨q, 0, none⟩), .agg #[.int .u32 (a : Int), .int .u8 (k : Int)]] W fun e w' => e = .returned (.tuple #[.agg #[.int .u32 (r.addr : Int), .int .u8 (r.len : Int), .bool r.has, .int .u32 (r.addr : Int), .int .u8 (r.len : Int), .int .i64 (r.via : Int), .int .u16 (r.metric : Int), .int .u16 (r.seq : Int), .int .u16 (r.ms : Int), .int .u16 (r.mm : Int)], .bool true]) ∧ Below W.heap.size W w') := fun W hW => trow_yes W w2.heap.size q (tabOf cs) v3 hW HTO.out.1 (by have := HTO.out.2.1; omega) a k (by omega) r h1
          clear h1 h2 h3
          go_wp2_with (first
            | (go_at_call 10; (with_reducible refine (c10 _).mono ?_); rintro e w5 ⟨rfl, B5⟩; have HB5 := Lib.hid (HR.trans (B5.mono HR.size)); clear B5)
            | (go_at_call 11; (with_reducible refine (HTR.out _ (HT.out.1.kept (HB5.out.alloc HB5.out.size _))).mono ?_); rintro e w6 ⟨rfl, B6⟩; have P6 := (B6.block w5.heap.size (by simp)).trans (heap_alloc_new w5 (.cells #[.int .u32 (a : Int), .int .u8 (k : Int)] 33)); obtain ⟨p0, p1⟩ := Tab.row2 P6; have e6 : w5.heap.size < w6.heap.size := (Array.getElem?_eq_some_iff.1 P6).1; have HB6 := Lib.hid ((HB5.out.alloc HB5.out.size _).trans (B6.mono (by have := HB5.out.size; simp; omega))); clear B6 P6)
            | (go_at_call 12; (with_reducible refine (HRW.out _ (HB6.out.alloc HB6.out.size _)).mono ?_); rintro e w7 ⟨rfl, B7⟩; have P7 := (B7.block w6.heap.size (by simp)).trans (heap_alloc_new w6 (.cells #[.int .u32 (r.addr : Int), .int .u8 (r.len : Int), .bool r.has, .int .u32 (r.addr : Int), .int .u8 (r.len : Int), .int .i64 (r.via : Int), .int .u16 (r.metric : Int), .int .u16 (r.seq : Int), .int .u16 (r.ms : Int), .int .u16 (r.mm : Int)] 43)); obtain ⟨⟨l0, l1, l2, l3, l4, l5, l6, l7, l8, l9⟩, lf⟩ := Tab.row10 P7; have e7 : w6.heap.size < w7.heap.size := (Array.getElem?_eq_some_iff.1 P7).1; have HB7 := Lib.hid ((HB6.out.alloc HB6.out.size _).trans (B7.mono (by have := HB6.out.size; simp; omega))); clear B7 P7 p0 p1))
          go_roundw
          case rel => exact ⟨j + 1, by omega, by go_num, HB7.out.alloc HB7.out.size _⟩
          case measure => simp [intOf]; omega
        · have HRW : Hid (∀ W, Below w3.heap.size w3 W → Calls Try.prog 12 #[.slice A1 len0 c1, .agg #[.int .u32 (a : Int), .int .u8 (k : Int)]] W fun e w' => (∃ a1 n1 v1 m1 s1 q1 q2, e = .returned (.tuple #[.agg #[.int .u32 (a : Int), .int .u8 (k : Int), .bool (rowOf cs a k).r.has, .int .u32 a1, .int .u8 n1, .int .i64 v1, .int .u16 m1, .int .u16 s1, .int .u16 q1, .int .u16 q2], .bool false])) ∧ Below W.heap.size W w') := fun W hW =>
            row_said W A1 len0 c1 cs HH.out.2.1.symm hl60 ((HH.out.1.below HT.out.2.1).below hW) (gd_bounds HH.out.2.2.1) a k false _ ⟨h2.symm, rfl⟩
          have HTR : Hid (∀ W, TabAt W w2.heap.size q (tabOf cs) v3 → Calls Try.prog 11 #[.pointer (some ⟨q, 0, none⟩), .agg #[.int .u32 (a : Int), .int .u8 (k : Int)]] W fun e w' => e = .returned (.tuple #[.agg #[.int .u32 0, .int .u8 0, .bool false, .int .u32 0, .int .u8 0, .int .i64 0, .int .u16 0, .int .u16 0, .int .u16 0, .int .u16 0], .bool false]) ∧ Below W.heap.size W w') := fun W hW => trow_no W w2.heap.size q (tabOf cs) v3 hW HTO.out.1 (by have := HTO.out.2.1; omega) a k (by omega) h1
          clear h1 h2
          generalize (rowOf cs a k).r.has = hh at *
          go_wp2_with (first
            | (go_at_call 10; (with_reducible refine (c10 _).mono ?_); rintro e w5 ⟨rfl, B5⟩; have HB5 := Lib.hid (HR.trans (B5.mono HR.size)); clear B5)
            | (go_at_call 11; (with_reducible refine (HTR.out _ (HT.out.1.kept (HB5.out.alloc HB5.out.size _))).mono ?_); rintro e w6 ⟨rfl, B6⟩; have P6 := (B6.block w5.heap.size (by simp)).trans (heap_alloc_new w5 (.cells #[.int .u32 (a : Int), .int .u8 (k : Int)] 33)); obtain ⟨p0, p1⟩ := Tab.row2 P6; have e6 : w5.heap.size < w6.heap.size := (Array.getElem?_eq_some_iff.1 P6).1; have HB6 := Lib.hid ((HB5.out.alloc HB5.out.size _).trans (B6.mono (by have := HB5.out.size; simp; omega))); clear B6 P6)
            | (go_at_call 12; (with_reducible refine (HRW.out _ (HB6.out.alloc HB6.out.size _)).mono ?_); rintro e w7 ⟨⟨a1, n1, v1, m1, s1, q1, q2, rfl⟩, B7⟩; have P7 := (B7.block w6.heap.size (by simp)).trans (heap_alloc_new w6 (.cells #[.int .u32 0, .int .u8 0, .bool false, .int .u32 0, .int .u8 0, .int .i64 0, .int .u16 0, .int .u16 0, .int .u16 0, .int .u16 0] 43)); obtain ⟨⟨l0, l1, l2, l3, l4, l5, l6, l7, l8, l9⟩, lf⟩ := Tab.row10 P7; have e7 : w6.heap.size < w7.heap.size := (Array.getElem?_eq_some_iff.1 P7).1; have HB7 := Lib.hid ((HB6.out.alloc HB6.out.size _).trans (B7.mono (by have := HB6.out.size; simp; omega))); clear B7 P7 p0 p1))
          go_roundw
          case rel => exact ⟨j + 1, by omega, by go_num, HB7.out.alloc HB7.out.size _⟩
          case measure => simp [intOf]; omega
      · obtain rfl : j = 18 := by omega
        have HSL := Lib.hid (HH.out.1.below HT.out.2.1)
        obtain ⟨m, hm⟩ : ∃ m, m = (tabOf cs).rows.length := ⟨_, rfl⟩
        have hm60 : m ≤ 60 := by have := HTO.out.2.1; omega
        obtain ⟨m2, hm2⟩ : ∃ m2, m2 = ((tabOf cs).rows.filter (·.has)).length := ⟨_, rfl⟩
        have hm260 : m2 ≤ 60 := by have := List.length_filter_le (fun r : R => r.has) (tabOf cs).rows; omega
        have HM := Lib.hid (And.intro hm hm2)
        clear hm hm2
        go_wp2_with (first
          | (go_at_call 14; (with_reducible refine (rows_any _ w2.heap.size q (tabOf cs) v3 (HT.out.1.kept HR) (by have := HM.out.1; omega)).mono ?_); rintro e w5 ⟨v5, rfl, O5, B5⟩; obtain ⟨A5, c5, hv5, hs5, -⟩ := O5.form; rw [← HM.out.1] at hv5; subst hv5; have HB5 := Lib.hid (And.intro hs5 (HR.trans (B5.mono HR.size))); clear O5 B5 hs5)
          | (go_at_call 15; (with_reducible refine (rrows_any _ A1 len0 c1 cs HH.out.2.1.symm hl60 (HSL.out.below HB5.out.2) HH.out.2.2.1).mono ?_); rintro e w6 ⟨v6, rfl, O6, B6⟩; obtain ⟨A6, c6, hv6, hs6, -⟩ := O6.form; rw [← HM.out.1] at hv6; subst hv6; have HB6 := Lib.hid (And.intro hs6 (And.intro (HB5.out.1.below B6) (HB5.out.2.trans (B6.mono HB5.out.2.size)))); clear O6 B6 hs6)
          | (go_at_call 13; (with_reducible refine (same_rows _ A5 A6 m c5 c6 (tabOf cs).rows HM.out.1 (by omega) HB6.out.2.1 HB6.out.1).mono ?_); rintro e w7 ⟨rfl, B7⟩; have HB7 := Lib.hid (HB6.out.2.2.trans (B7.mono HB6.out.2.2.size)); clear B7)
          | (go_at_call 17; (with_reducible refine (routes_any _ w2.heap.size q (tabOf cs) v3 (HT.out.1.kept HB7.out) (by have := HM.out.1; omega)).mono ?_); rintro e w8 ⟨v8, rfl, O8, B8⟩; obtain ⟨A8, c8, hv8, hs8⟩ := O8.sl; rw [← HM.out.2] at hv8; subst hv8; have HB8 := Lib.hid (And.intro hs8 (HB7.out.trans (B8.mono HB7.out.size))); clear O8 B8 hs8)
          | (go_at_call 18; (with_reducible refine (rroutes_any _ A1 len0 c1 cs HH.out.2.1.symm hl60 (HSL.out.below HB8.out.2) HH.out.2.2.1).mono ?_); rintro e w9 ⟨v9, rfl, O9, B9⟩; obtain ⟨A9, c9, hv9, hs9⟩ := O9.sl; rw [← HM.out.2] at hv9; subst hv9; have HB9 := Lib.hid (And.intro hs9 (And.intro (HB8.out.1.below B9) (HB8.out.2.trans (B9.mono HB8.out.2.size)))); clear O9 B9 hs9)
          | (go_at_call 16; (with_reducible refine (same_routes _ A8 A9 m2 c8 c9 ((tabOf cs).rows.filter (·.has)) HM.out.2 (by omega) HB9.out.2.1 HB9.out.1).mono ?_); rintro e w10 ⟨rfl, B10⟩; have HB10 := Lib.hid (HB9.out.2.2.trans (B10.mono HB9.out.2.2.size)); clear B10))
        go_ret
        exact ⟨rfl, HT.out.2.2.trans (HB10.out.mono HT.out.2.2.size)⟩

set_option maxRecDepth 100000 in
theorem lifted (os : Os) (started : os.Started) (H : Type) (enc : TypeId × Value → H) :
    ReturnsInHanded {} Try.checked os 3 .any (Rows.tableTellsSpec.pre6 enc Try.prog Try.f3 Rows.tableTellsRow.domain false) (Rows.tableTellsSpec.post enc Try.prog Try.f3 false true false false) := by
  refine returnsInHanded_of_change (C := Try.checked) own started (by kernel_rfl) Try.func3
    (ChangeSpec.witness6 (enc := enc) (C := Try.checked) false ⟨#[], #[.slice none 0 0], []⟩ 8 (by kernel_rfl) (by kernel_rfl) (by kernel_rfl) (by kernel_rfl)) ?_
  intro W base args ds gs before hval0 hW hcnd _
  have hval : ∀ (j : Nat) t v, Try.f3.params[j]? = some t → args[j]? = some v → Value.okWide Try.prog W .any base t v := hval0
  have hW' := hW
  obtain ⟨p, q, hA0, hV, rfl, hfz, hnd⟩ := hW
  have hA : DataW.TrodAll enc Try.prog W 0 (fun _ => true) true Try.f3.params.toList args.toList ds p := hA0
  rw [Try.params3] at hA hval
  obtain ⟨v0, vs0, d0, ds0, p0, q0, hargs, rfl, rfl, h0, r0⟩ := trodAll_cons hA
  obtain ⟨rfl, rfl, rfl⟩ := trodAll_nil r0
  obtain rfl : args = #[v0] := by cases args; simp_all
  obtain ⟨rfl, rfl⟩ := trodVars_none hV
  obtain ⟨a0, len0, cap0, rfl⟩ := okWide_slice Try.underlying22 (hval 0 22 v0 rfl rfl)
  have k0 := h0
  have lt0 : ∀ x ∈ p0, x.block < W.heap.size := by obtain ⟨m, hm⟩ := k0; exact DataW.trod_lt m _ _ _ hm
  obtain ⟨z0, w0⟩ : ∃ zs, IsActs W a0 len0 cap0 zs := by
    obtain ⟨fuel, hf⟩ := h0
    obtain ⟨a, l, c, ds, hcs, hds⟩ := acts_of hf
    simp [Value.cells] at hcs
    obtain ⟨rfl, rfl, rfl⟩ := hcs
    exact ⟨ds, hds⟩
  clear hA0 hval0
  refine (walk a0 len0 cap0 z0 W w0).mono fun e W' ⟨he, bel⟩ => ?_
  subst he
  exact ⟨_, rfl, _, _, _, [], _, [], hW', trodAll_mk1 (shut_bool Try.underlying4 _), (trodAll_cons_mk (Below.trod laidOut (by kernel_rfl) (of_decide_eq_true (by kernel_rfl)) k0 bel lt0) trodAll_mk0), rfl, bel.frame _, fun h => by cases h⟩

theorem over : Rows.tableTellsRow.holds Try.pinned (OpenSpec.ofChange Rows.tableTellsSpec) :=
  OpenClaim.holds_of_wide 3 Try.f3 rfl rfl rfl rfl rfl rfl rfl ⟨rfl, rfl, rfl, rfl, rfl⟩ rfl rfl rfl rfl rfl (by kernel_rfl) Try.func3 (by kernel_rfl)
    (of_decide_eq_true (by kernel_rfl)) (by unfold Func.isWrapper; first | (rw [if_pos (by decide +kernel)]; kernel_rfl) | (rw [if_neg (by decide +kernel)]; exact ⟨rfl, rfl⟩))
    (fun os started H enc _ => lifted os started H enc)

theorem proved : Rows.TableTellsSaid := over
#print axioms proved
end Go.Proofs.Ytcgncecjbkpmkaa.tableTells
