/-
  'For every input the Go function milestonelaw14.LinkPlays returns true, and each argument reads behind the call as it read before.'
  Conditions: none but the row's own (linux/amd64, sizes of what is read within the address space).
-/
import Derived.Test.YtmpcfnlddpofgaaDoorRows
import Derived.WalkKit
import Derived.ProofKit
import Derived.OpenShut
import Derived.ShutString
import Derived.ChangeOld
import Derived.Below
import Derived.Lib.SmallJoins
import Derived.Lib.Hide
import Derived.Test.YtmpcfnlddpofgaaDoorLj
import Derived.Deep.CutBlock
import Derived.Deep.DeepCutAuto
import Derived.Test.YtmpcfnlddpofgaaDoorLaid
import Derived.Test.YtmpcfnlddpofgaaDoorCards
import Derived.Test.YtmpcfnlddpofgaaDoorTie
import Derived.SevenTiedAt
import Derived.Laws.Closers25b
namespace Go.Proofs.YtmpcfnlddpofgaaDoor.linkPlays
open Lk
open Go.Sort
open Go.ChangeShapes Go.WideShapes Go.ChangeAt Go.RowKit
open Go.ChangeMaps (open_string shut_string)
set_option linter.unusedVariables false

theorem own : ownKnob Tryd.prog.godebug = none := by kernel_rfl
theorem laidOut : laidOutB Tryd.prog = true := by kernel_rfl

set_option maxHeartbeats 16000000 in
set_option maxRecDepth 100000 in
theorem walk (a0 : Int) (a1 : Option Addr) (len1 cap1 : Nat) (z1 : List ActD) (w : World) (w0 : (Lit.int .u8 a0).wf = true) (w1 : IsActs w a1 len1 cap1 z1) (hp : Tab w) :
    Calls Tryd.prog 3 #[.int .u8 a0, .slice a1 len1 cap1] w fun e w' => e = .returned (.bool true) ∧ Below w.heap.size w w' := by
  have b0 := bounds_u8 w0
  clear w0
  obtain ⟨S, rfl⟩ := Int.eq_ofNat_of_zero_le b0.1
  have hS : S ≤ 255 := by omega
  clear b0
  have c8 := awake_any w hp
  by_cases hbig : 100 < len1
  · have HP := Lib.hid hp
    clear hp w1
    have hd : decide ((100 : Int) < (len1 : Int)) = true := by simp; omega
    go_enter Tryd.func3, Tryd.ntmps3
    go_wp2_with fail
    refine c8.mono ?_
    rintro e wa ⟨rfl, hb⟩
    have c8b := awake_any wa (tab_below HP.out hb (tab_size HP.out))
    go_wp2_with (go_at_call 8; refine c8b.mono ?_; rintro e w' ⟨rfl, hb2⟩)
    go_ret
    exact ⟨rfl, bstep hb hb2⟩
  have hd : decide ((100 : Int) < (len1 : Int)) = false := by simp; omega
  have HP := Lib.hid hp
  have HZ := Lib.hid w1
  clear hp w1
  have mk := make16
  have hS6 : IntKind.u64.wrap ((S : Int) + 6) = ((S + 6 : Nat) : Int) := by rw [IntKind.wrap_u64]; omega
  go_enter Tryd.func3, Tryd.ntmps3
  go_wp2_with fail
  refine c8.mono ?_
  rintro e wa ⟨rfl, hb⟩
  have HB := Lib.hid hb
  clear hb
  go_wp2_with fail
  refine (in_new HB.out HP.out S (by omega)).mono ?_
  rintro e wb ⟨rfl, hi⟩
  have H0 : Hid (Pl w (wb.alloc (.cells (madeCells #[.bool false] 16) 4)) wa.heap.size 0 S 0 (L.new S) wb.heap.size 16) := Lib.hid ⟨(Me.made hi (new_ok S (by omega))).as zero_bits, fun h => absurd rfl h, by omega, by omega, by show S + 6 ≤ _; omega, by show 0 ≤ _; omega⟩
  clear hi c8
  generalize wa.heap.size = Q at *
  go_wp2
  go_loopw [5, 7, 8, 9, 10, 11, 12] (fun v5 v7 v8 v9 v10 v11 v12 wr => ∃ (i now next : Nat) (l : L) (g cap : Nat), i ≤ len1 ∧ v5 = .int .u64 (now : Int) ∧ v7 = .slice (some ⟨g, 0, none⟩) 16 cap ∧ v8 = .int .u64 (next : Int) ∧ v9 = .int .u64 (l.m : Int) ∧ v10 = .int .u16 (l.t : Int) ∧ v11 = .int .u64 (l.h : Int) ∧ v12 = .int .i64 (i : Int) ∧ Hid (Pl w wr Q i now next l g cap)) (fun _ _ _ _ _ _ v12 _ => len1 - (intOf v12).toNat)
  case atStart => exact ⟨0, S, 0, L.new S, _, 16, by omega, rfl, rfl, rfl, by congr 1, rfl, rfl, rfl, H0⟩
  case round =>
    clear H0
    obtain ⟨i, now, next, l, g, cap, hi, rfl, rfl, rfl, rfl, rfl, rfl, rfl, HM⟩ := hrel
    have hcap := HM.out.me.capLe
    by_cases hlt : i < len1
    · obtain ⟨d, b, o, rfl, hA⟩ := HZ.out.at' HM.out.me.in'.below i hlt
      have hdl : decide (i < len1) = true := by simp; omega
      have HLT := Lib.hid hlt
      have hib : i ≤ 100 := by omega
      have hnow : now ≤ 2000 := by have := HM.out.bnow; omega
      have hnext : next ≤ 3000 := by have := HM.out.bnext; omega
      obtain ⟨K, N, C⟩ := d
      obtain ⟨hk, hn, hc, hKb, hNb, hCb⟩ := hA
      simp only at hk hn hc hKb hNb hCb
      clear hlt
      obtain ⟨r, hr⟩ : ∃ r : Nat, (K : Int) % 12 = (r : Int) := ⟨K % 12, by simp⟩
      have HR := Lib.hid hr
      clear hr
      go_upto_block 2 with (fail)
      go_cut [5, 7, 8, 9, 10, 11] (fun v5 v7 v8 v9 v10 v11 wx => ∃ (now next : Nat) (l : L) (g cap : Nat), v5 = .int .u64 (now : Int) ∧ v7 = .slice (some ⟨g, 0, none⟩) 16 cap ∧ v8 = .int .u64 (next : Int) ∧ v9 = .int .u64 (l.m : Int) ∧ v10 = .int .u16 (l.t : Int) ∧ v11 = .int .u64 (l.h : Int) ∧ Hid (Pl w wx Q (i + 1) now next l g cap))
      case first =>
        have M0 := Lib.hid (HM.out.me.alloc (.cells #[.int .u8 (K : Int), .int .u8 (N : Int), .int .u16 (C : Int)] 30))
        have x0 : (wr.alloc (.cells #[.int .u8 (K : Int), .int .u8 (N : Int), .int .u16 (C : Int)] 30)).cell? ⟨wr.heap.size, 0, none⟩ = some (.int .u8 (K : Int)) := by simp [go_sem]
        have x1 : (wr.alloc (.cells #[.int .u8 (K : Int), .int .u8 (N : Int), .int .u16 (C : Int)] 30)).cell? ⟨wr.heap.size, 1, none⟩ = some (.int .u8 (N : Int)) := by simp [go_sem]
        have x2 : (wr.alloc (.cells #[.int .u8 (K : Int), .int .u8 (N : Int), .int .u16 (C : Int)] 30)).cell? ⟨wr.heap.size, 2, none⟩ = some (.int .u16 (C : Int)) := by simp [go_sem]
        have hpq : wr.heap.size ≠ Q := by have := HM.out.me.in'.at'.lt; omega
        have hpl : wr.heap.size < (wr.alloc (.cells #[.int .u8 (K : Int), .int .u8 (N : Int), .int .u16 (C : Int)] 30)).heap.size := by simp
        clear hk hn hc
        generalize wr.heap.size = p at *
        generalize hW : wr.alloc (.cells #[.int .u8 (K : Int), .int .u8 (N : Int), .int .u16 (C : Int)] 30) = W at *
        clear hW
        by_cases hr4 : r < 4
        · as_aux_lemma =>
            have hd4 : decide ((K : Int) % 12 < 4) = true := by have := HR.out; simp; omega
            obtain ⟨m4, hm4⟩ : ∃ m4 : Nat, m4 = N % 4 := ⟨_, rfl⟩
            have HM4 := Lib.hid hm4
            clear hm4
            go_upto_if 110 with (fail)
            go_cut [15] (fun v15 wx => wx = W ∧ ∃ n : Nat, Hid (n ≤ next + 3 ∨ n ≤ 255) ∧ v15 = .int .u64 (n : Int))
            case first =>
              by_cases hr3 : r = 3
              · have hd3 : ((K : Int) % 12 == 3) = true := by have := HR.out; simp; omega
                clear hr3
                go_wp2
                go_meet
                case rel => exact ⟨rfl, N, Lib.hid (.inr (by omega)), by first | rfl | (congr 1 <;> omega)⟩
              · have hd3 : ((K : Int) % 12 == 3) = false := by have := HR.out; simp; omega
                clear hr3
                go_wp2
                go_meet
                case rel => exact ⟨rfl, next + m4, Lib.hid (.inl (by have := HM4.out; omega)), by have := HM4.out; first | rfl | (congr 1 <;> omega)⟩
            case rest =>
              obtain ⟨rfl, n, HN, rfl⟩ := hcut
              have hnb : n ≤ 4000 := by have := HN.out; omega
              have C10 := Lib.hid (M0.out.hello n now (by omega) (by omega))
              clear x0 x1 x2
              go_wp2_with (first | (go_at_call 10; ((with_reducible refine C10.out.mono ?_); rintro e w5 ⟨rfl, H5⟩)))
              clear C10
              go_loop [16, 17] (fun vs vj => ∃ m : Nat, m ≤ 16 ∧ vs = .bool (anyB (l.c).testBit m) ∧ vj = .int .i64 (m : Int)) (fun _ vj => 16 - (intOf vj).toNat)
              case atStart => exact ⟨0, by omega, rfl, rfl⟩
              case round =>
                obtain ⟨m, hm, rfl, rfl⟩ := hrel
                by_cases hlt : m < 16
                · have hcl := H5.out.cell m hlt
                  have HS : Hid (anyB (l.c).testBit (m + 1) = (anyB (l.c).testBit m || (l.c).testBit m)) := Lib.hid rfl
                  cases ha : anyB (l.c).testBit m
                  · cases hb : (l.c).testBit m
                    · rw [ha, hb] at HS
                      rw [hb] at hcl
                      clear ha hb
                      go_wp2
                      go_round
                      case rel => exact ⟨m + 1, by omega, by rw [HS.out]; rfl, by congr 1⟩
                      case measure => simp [intOf] <;> omega
                    · rw [ha, hb] at HS
                      rw [hb] at hcl
                      clear ha hb
                      go_wp2
                      go_round
                      case rel => exact ⟨m + 1, by omega, by rw [HS.out]; rfl, by congr 1⟩
                      case measure => simp [intOf] <;> omega
                  · rw [ha] at HS
                    clear ha hcl
                    go_wp2
                    go_round
                    case rel => exact ⟨m + 1, by omega, by rw [HS.out]; rfl, by congr 1⟩
                    case measure => simp [intOf] <;> omega
                · obtain rfl : m = 16 := by omega
                  clear hm hlt
                  rw [any16 _ HM.out.me.ok.c]
                  have hnw : IntKind.u64.wrap ((n : Int) + 1) = ((n + 1 : Nat) : Int) := by rw [IntKind.wrap_u64]; omega
                  have hnow6 : IntKind.u64.wrap ((now : Int) + 6) = ((now + 6 : Nat) : Int) := by rw [IntKind.wrap_u64]; omega
                  by_cases hlt : n < next
                  · have hq1 : decide (n < next) = true := by simp [hlt]
                    have HC1 := Lib.hid (hello_alone l n now next HM.out.nx (by omega) HM.out.me.ok.c)
                    have HX := Lib.hid (H5.out.alone' HC1.out)
                    have hcm := (Me.made H5.out.in' H5.out.ok).cell 0 (by omega)
                    have hfm := (Me.made H5.out.in' H5.out.ok).frozen 0
                    clear hlt
                    go_wp2
                    go_meet
                    case rel => exact ⟨now, n + 1, l.hello n now, _, _, rfl, rfl, by congr 1, by congr 1, rfl, rfl, Lib.hid (HM.out.hello HN.out HX.out)⟩
                  · have hq1 : decide (n < next) = false := by simp; omega
                    have hsw : IntKind.u64.wrap ((n : Int) - (next : Int)) = ((n - next : Nat) : Int) := by rw [IntKind.wrap_u64]; omega
                    by_cases h16 : 16 ≤ n - next
                    · have hq2 : decide (16 ≤ (n : Int) - (next : Int)) = true := by simp; omega
                      have hnn : next ≤ n := by omega
                      have HC1 := Lib.hid (hello_alone l n now next HM.out.nx (by omega) HM.out.me.ok.c)
                      have HX := Lib.hid (H5.out.alone' HC1.out)
                      have hcm := (Me.made H5.out.in' H5.out.ok).cell 0 (by omega)
                      have hfm := (Me.made H5.out.in' H5.out.ok).frozen 0
                      clear h16 hlt hsw
                      go_wp2
                      go_meet
                      case rel => exact ⟨now, n + 1, l.hello n now, _, _, rfl, rfl, by congr 1, by congr 1, rfl, rfl, Lib.hid (HM.out.hello HN.out HX.out)⟩
                    · have hq2 : decide (16 ≤ (n : Int) - (next : Int)) = false := by simp; omega
                      by_cases hc0 : l.c = 0
                      · have hda : decide (l.c ≠ 0) = false := by simp [hc0]
                        have hnn : next ≤ n := by omega
                        rw [hda]
                        have HC1 := Lib.hid (hello_alone l n now next HM.out.nx (by omega) HM.out.me.ok.c)
                        have HX := Lib.hid (H5.out.alone' HC1.out)
                        have hcm := (Me.made H5.out.in' H5.out.ok).cell 0 (by omega)
                        have hfm := (Me.made H5.out.in' H5.out.ok).frozen 0
                        clear h16 hlt hsw hda hc0
                        go_wp2
                        go_meet
                        case rel => exact ⟨now, n + 1, l.hello n now, _, _, rfl, rfl, by congr 1, by congr 1, rfl, rfl, Lib.hid (HM.out.hello HN.out HX.out)⟩
                      · skip
                        obtain ⟨s, hs⟩ : ∃ s, s = n - next + 1 := ⟨_, rfl⟩
                        have HS' := Lib.hid (hello_shift l n now next HM.out.nx hc0 (by omega))
                        rw [← hs] at HS'
                        have HTW := Lib.hid ((H5.out.two).start l.c s)
                        have hs1 : 1 ≤ s := by omega
                        have hs16 : s ≤ 16 := by omega
                        have hsw : IntKind.u64.wrap ((n : Int) - (next : Int)) = ((n - next : Nat) : Int) := by rw [IntKind.wrap_u64]; omega
                        have hs2 : (((n - next : Nat) : Int)) + 1 = (s : Int) := by omega
                        have hs3 : (n : Int) - (next : Int) + 1 = (s : Int) := by omega
                        have hda : decide (l.c ≠ 0) = true := by simp [hc0]
                        have hnn : next ≤ n := by omega
                        have hn16 : n - next < 16 := by omega
                        rw [hda]
                        clear hc0 hda hs
                        go_wp2
                        go_loopw [20] (fun v20 wy => ∃ j : Nat, j ≤ 16 - s ∧ v20 = .int .i64 (j : Int) ∧ Hid (Two w wy Q (l.hello n now) g cap l.c.testBit w5.heap.size (shf l.c s j))) (fun v20 _ => 16 - (intOf v20).toNat)
                        case atStart => exact ⟨0, by omega, rfl, HTW⟩
                        case round =>
                          clear HTW
                          obtain ⟨j, hj, rfl, HTW⟩ := hrel
                          by_cases hlt : j + s < 16
                          · have hc1 := HTW.out.a.cell j (by omega)
                            have hc2 := HTW.out.b.cell (j + s) (by omega)
                            have hf2 := HTW.out.b.frozen (j + s)
                            have HNX := Lib.hid (HTW.out.next _ rfl)
                            have hdj : decide ((j : Int) + (s : Int) < 16) = true := by simp; omega
                            go_wp2
                            go_roundw
                            case rel => exact ⟨j + 1, by omega, by congr 1, HNX⟩
                            case measure => simp [intOf] <;> omega
                          · have hdj : decide ((j : Int) + (s : Int) < 16) = false := by simp; omega
                            have HX := Lib.hid (HTW.out.end hs1 (by omega) HS'.out)
                            have hcm := HTW.out.b.cell 0 (by omega)
                            have hfm := HTW.out.b.frozen 0
                            clear hs2 hs3 hsw
                            go_wp2
                            go_meet
                            case rel => exact ⟨now, n + 1, l.hello n now, _, _, rfl, rfl, by congr 1, by congr 1, rfl, rfl, Lib.hid (HM.out.hello HN.out HX.out)⟩
        · have hd4 : decide ((K : Int) % 12 < 4) = false := by have := HR.out; simp; omega
          by_cases hr6 : r < 6
          · as_aux_lemma =>
              have hd6 : decide ((K : Int) % 12 < 6) = true := by have := HR.out; simp; omega
              have C11 := Lib.hid (M0.out.heardBox C now hCb (by omega) hpq hpl)
              by_cases hC0 : C = 0
              · have HC0 := Lib.hid hC0
                have hC1 : ((C : Int) == 0) = true := by simp; omega
                clear hC0
                go_wp2_with (first | (go_at_call 11; ((with_reducible refine C11.out.mono ?_); rintro e w5 ⟨rfl, H5, hx⟩; have y2 := (hx 2).trans x2; clear hx)))
                go_meet
                case rel => exact ⟨now, next, l.heard C now, g, cap, rfl, rfl, rfl, rfl, by have := HC0.out; subst this; rfl, rfl, Lib.hid (HM.out.heard H5.out)⟩
              · have hC1 : ((C : Int) == 0) = false := by simp; omega
                go_wp2_with (first | (go_at_call 11; ((with_reducible refine C11.out.mono ?_); rintro e w5 ⟨rfl, H5, hx⟩; have y2 := (hx 2).trans x2; clear hx)))
                go_meet
                case rel => exact ⟨now, next, l.heard C now, g, cap, rfl, rfl, rfl, rfl, by show _ = Value.int .u16 ((max C 1 : Nat) : Int); rw [show max C 1 = C by omega], rfl, Lib.hid (HM.out.heard H5.out)⟩
          · as_aux_lemma =>
              have hd6 : decide ((K : Int) % 12 < 6) = false := by have := HR.out; simp; omega
              obtain ⟨n2, hn2⟩ : ∃ n2 : Nat, (now : Int) + (1 + (N : Int) % 8) = (n2 : Int) := ⟨now + (1 + N % 8), by simp⟩
              have hn2a : now ≤ n2 := by omega
              have hn2b : n2 ≤ now + 8 := by omega
              have C12 := Lib.hid (M0.out.tick n2 (by omega))
              have HM0 := HM
              clear x0 x2
              go_wp2_with (first | (go_at_call 12; ((with_reducible refine C12.out.mono ?_); rintro e w5 ⟨rfl, k, HT, H5⟩)))
              clear C12 hn2 x1
              have hk16 : k ≤ 16 := ticked_le HT.out
              have H50 : Hid (Me w w5 Q (l.after k n2) g cap (sh l.c 0).testBit) := Lib.hid (by rw [sh_zero _ HM.out.me.ok.c]; exact H5.out)
              have hlm : l.m ≤ 4000 := by have := HM.out.bm'; omega
              have hlh : l.h ≤ 4000 := by have := HM.out.bh; omega
              clear H5
              go_loopw [7, 8, 9, 21] (fun v7 v8 v9 v21 wy => ∃ (t g cap : Nat), t ≤ k ∧ v7 = .slice (some ⟨g, 0, none⟩) 16 cap ∧ v8 = .int .u64 ((next + t : Nat) : Int) ∧ v9 = .int .u64 ((l.m + 6 * t : Nat) : Int) ∧ v21 = .int .i64 (t : Int) ∧ Hid (Me w wy Q (l.after k n2) g cap (sh l.c t).testBit)) (fun _ _ _ v21 _ => 17 - (intOf v21).toNat)
              case atStart => exact ⟨0, g, cap, by omega, rfl, rfl, rfl, rfl, H50⟩
              case round =>
                clear H50
                obtain ⟨t, g1, cap1', ht, rfl, rfl, rfl, rfl, H5⟩ := hrel
                have hcap1 := H5.out.capLe
                have hdt : decide ((t : Int) < 100) = true := by simp; omega
                obtain ⟨X, hX⟩ : ∃ X, X = next + t := ⟨_, rfl⟩
                obtain ⟨M, hM⟩ : ∃ M, M = l.m + 6 * t := ⟨_, rfl⟩
                rw [← hX, ← hM]
                have HXX := Lib.hid hX
                have HMM := Lib.hid hM
                have hXb : X ≤ 4000 := by omega
                have hMb : M ≤ 5000 := by omega
                have hshl := sh_lt l.c t
                clear hX hM
                go_wp2
                go_loop [22, 23] (fun vs vj => ∃ m : Nat, m ≤ 16 ∧ vs = .bool (anyB (sh l.c t).testBit m) ∧ vj = .int .i64 (m : Int)) (fun _ vj => 16 - (intOf vj).toNat)
                case atStart => exact ⟨0, by omega, rfl, rfl⟩
                case round =>
                  obtain ⟨m, hm, rfl, rfl⟩ := hrel
                  by_cases hlt : m < 16
                  · have hcl := H5.out.cell m hlt
                    have HS : Hid (anyB (sh l.c t).testBit (m + 1) = (anyB (sh l.c t).testBit m || (sh l.c t).testBit m)) := Lib.hid rfl
                    cases ha : anyB (sh l.c t).testBit m
                    · cases hb : (sh l.c t).testBit m
                      · rw [ha, hb] at HS
                        rw [hb] at hcl
                        clear ha hb
                        go_wp2
                        go_round
                        case rel => exact ⟨m + 1, by omega, by rw [HS.out]; rfl, by congr 1⟩
                        case measure => simp [intOf] <;> omega
                      · rw [ha, hb] at HS
                        rw [hb] at hcl
                        clear ha hb
                        go_wp2
                        go_round
                        case rel => exact ⟨m + 1, by omega, by rw [HS.out]; rfl, by congr 1⟩
                        case measure => simp [intOf] <;> omega
                    · rw [ha] at HS
                      clear ha hcl
                      go_wp2
                      go_round
                      case rel => exact ⟨m + 1, by omega, by rw [HS.out]; rfl, by congr 1⟩
                      case measure => simp [intOf] <;> omega
                  · obtain rfl : m = 16 := by omega
                    clear hm hlt
                    rw [any16 _ (sh_lt l.c t)]
                    by_cases hlt : t < k
                    · obtain ⟨hsc, hsm⟩ := HT.out.1 t hlt
                      have hda : decide (sh l.c t ≠ 0) = true := by simp [hsc]
                      have hdm : decide (n2 < M) = false := by have := HMM.out; simp; omega
                      obtain ⟨g2, cap2, w6, hrun, H6'⟩ := H5.out.pushed
                      have H6 := Lib.hid H6'
                      clear H6'
                      rw [hda]
                      clear hda hsc hsm
                      have hX1 : IntKind.u64.wrap ((X : Int) + 1) = ((X + 1 : Nat) : Int) := by rw [IntKind.wrap_u64]; omega
                      have hM6 : IntKind.u64.wrap ((M : Int) + 6) = ((M + 6 : Nat) : Int) := by rw [IntKind.wrap_u64]; omega
                      go_wp2_with (first | (at_builtin; refine Lib.wpList_append_run _ rfl (.tmp 89) (.tmp 91) 27 27 rfl _ _ rfl rfl _ _ hrun ?_))
                      go_roundw
                      case rel => exact ⟨t + 1, g2, cap2, by omega, rfl, by have := HXX.out; congr 1; omega, by have := HMM.out; congr 1; omega, by congr 1, H6⟩
                      case measure => simp [intOf] <;> omega
                    · obtain rfl : t = k := by omega
                      have HE := Lib.hid HT.out.2
                      by_cases hsc : sh l.c t = 0
                      · have hda : decide (sh l.c t ≠ 0) = false := by simp [hsc]
                        rw [hda]
                        clear hda hsc hlt
                        by_cases hh : l.h ≤ n2
                        · have hdh : decide (l.h ≤ n2) = true := by simp [hh]
                          have HH := Lib.hid hh
                          clear hh
                          go_wp2
                          go_meet
                          case rel => exact ⟨n2, X, l.after t n2, g1, cap1', rfl, rfl, rfl, by rw [HMM.out]; rfl, by show _ = Value.int .u16 ((if l.h ≤ n2 then 65535 else l.t : Nat) : Int); rw [if_pos HH.out]; rfl, rfl, by rw [HXX.out]; exact Lib.hid (HM0.out.tick hn2a hn2b HT.out H5.out)⟩
                        · have hdh : decide (l.h ≤ n2) = false := by simp; omega
                          have HH := Lib.hid hh
                          clear hh
                          go_wp2
                          go_meet
                          case rel => exact ⟨n2, X, l.after t n2, g1, cap1', rfl, rfl, rfl, by rw [HMM.out]; rfl, by show _ = Value.int .u16 ((if l.h ≤ n2 then 65535 else l.t : Nat) : Int); rw [if_neg HH.out], rfl, by rw [HXX.out]; exact Lib.hid (HM0.out.tick hn2a hn2b HT.out H5.out)⟩
                      · have hda : decide (sh l.c t ≠ 0) = true := by simp [hsc]
                        have hdm : decide (n2 < M) = true := by have := HMM.out; have := HE.out; simp; omega
                        rw [hda]
                        clear hda hsc hlt
                        by_cases hh : l.h ≤ n2
                        · have hdh : decide (l.h ≤ n2) = true := by simp [hh]
                          have HH := Lib.hid hh
                          clear hh
                          go_wp2
                          go_meet
                          case rel => exact ⟨n2, X, l.after t n2, g1, cap1', rfl, rfl, rfl, by rw [HMM.out]; rfl, by show _ = Value.int .u16 ((if l.h ≤ n2 then 65535 else l.t : Nat) : Int); rw [if_pos HH.out]; rfl, rfl, by rw [HXX.out]; exact Lib.hid (HM0.out.tick hn2a hn2b HT.out H5.out)⟩
                        · have hdh : decide (l.h ≤ n2) = false := by simp; omega
                          have HH := Lib.hid hh
                          clear hh
                          go_wp2
                          go_meet
                          case rel => exact ⟨n2, X, l.after t n2, g1, cap1', rfl, rfl, rfl, by rw [HMM.out]; rfl, by show _ = Value.int .u16 ((if l.h ≤ n2 then 65535 else l.t : Nat) : Int); rw [if_neg HH.out], rfl, by rw [HXX.out]; exact Lib.hid (HM0.out.tick hn2a hn2b HT.out H5.out)⟩
      case rest =>
        clear hk hn hc
        as_aux_lemma =>
          obtain ⟨now2, next2, l2, g2, cap2, rfl, rfl, rfl, rfl, rfl, rfl, HM2⟩ := hcut
          have hcap2 := HM2.out.me.capLe
          clear HM hcap
          go_wp2
          go_loop [24, 25, 26] (fun v24 v25 v26 => ∃ m : Nat, m ≤ 16 ∧ v24 = .int .i64 ((cnt l2.c.testBit m : Nat) : Int) ∧ v25 = .bool (anyB l2.c.testBit m) ∧ v26 = .int .i64 (m : Int)) (fun _ _ v26 => 16 - (intOf v26).toNat)
          case atStart => exact ⟨0, by omega, rfl, rfl, rfl⟩
          case round =>
            obtain ⟨m, hm, rfl, rfl, rfl⟩ := hrel
            have hnl := cnt_le l2.c.testBit m
            by_cases hlt : m < 16
            · have hcl := HM2.out.me.cell m hlt
              have HS : Hid (anyB l2.c.testBit (m + 1) = (anyB l2.c.testBit m || l2.c.testBit m)) := Lib.hid rfl
              have HC : Hid (cnt l2.c.testBit (m + 1) = cnt l2.c.testBit m + if l2.c.testBit m && decide (m < 3) then 1 else 0) := Lib.hid rfl
              generalize hNN : cnt l2.c.testBit m = NN at *
              clear hNN
              cases hb : l2.c.testBit m
              · rw [hb] at HS HC hcl
                cases ha : anyB l2.c.testBit m
                · rw [ha] at HS
                  clear ha hb
                  go_wp2
                  go_round
                  case rel => exact ⟨m + 1, by omega, by rw [HC.out]; rfl, by rw [HS.out]; rfl, by congr 1⟩
                  case measure => simp [intOf] <;> omega
                · rw [ha] at HS
                  clear ha hb
                  go_wp2
                  go_round
                  case rel => exact ⟨m + 1, by omega, by rw [HC.out]; rfl, by rw [HS.out]; rfl, by congr 1⟩
                  case measure => simp [intOf] <;> omega
              · rw [hb] at HS HC hcl
                by_cases h3 : m < 3
                · have hd3 : decide ((m : Int) < 3) = true := by simp; omega
                  have HC1 : Hid (cnt l2.c.testBit (m + 1) = NN + 1) := Lib.hid (by rw [HC.out]; simp [h3])
                  clear h3 HC
                  cases ha : anyB l2.c.testBit m
                  · rw [ha] at HS
                    clear ha hb
                    go_wp2
                    go_round
                    case rel => exact ⟨m + 1, by omega, by rw [HC1.out]; rfl, by rw [HS.out]; rfl, by congr 1⟩
                    case measure => simp [intOf] <;> omega
                  · rw [ha] at HS
                    clear ha hb
                    go_wp2
                    go_round
                    case rel => exact ⟨m + 1, by omega, by rw [HC1.out]; rfl, by rw [HS.out]; rfl, by congr 1⟩
                    case measure => simp [intOf] <;> omega
                · have hd3 : decide ((m : Int) < 3) = false := by simp; omega
                  have HC1 : Hid (cnt l2.c.testBit (m + 1) = NN) := Lib.hid (by rw [HC.out]; simp [h3])
                  clear h3 HC
                  cases ha : anyB l2.c.testBit m
                  · rw [ha] at HS
                    clear ha hb
                    go_wp2
                    go_round
                    case rel => exact ⟨m + 1, by omega, by rw [HC1.out], by rw [HS.out]; rfl, by congr 1⟩
                    case measure => simp [intOf] <;> omega
                  · rw [ha] at HS
                    clear ha hb
                    go_wp2
                    go_round
                    case rel => exact ⟨m + 1, by omega, by rw [HC1.out], by rw [HS.out]; rfl, by congr 1⟩
                    case measure => simp [intOf] <;> omega
            · obtain rfl : m = 16 := by omega
              rw [any16 _ HM2.out.me.ok.c]
              have HRC := Lib.hid (recv_cnt l2.c)
              obtain ⟨bA, hbA⟩ : ∃ bA, bA = decide (l2.c ≠ 0) := ⟨_, rfl⟩
              rw [← hbA]
              have HBA := Lib.hid hbA
              clear hbA hm hlt
              generalize hNN : cnt l2.c.testBit 16 = NN at *
              clear hNN
              by_cases h2 : 2 ≤ NN
              · have hr : recv l2.c = 96 := by rw [HRC.out, if_pos h2]
                have C13 := Lib.hid (HM2.out.me.receives 96 hr.symm)
                have C14 := Lib.hid (fun (wz : World) (h : Me w wz Q l2 g2 cap2 l2.c.testBit) => h.cost l2.t (by unfold L.cost; rw [if_pos hr]))
                have C15 := Lib.hid (fun (wz : World) (h : Me w wz Q l2 g2 cap2 l2.c.testBit) => h.alive bA HBA.out)
                have hd2 : decide ((2 : Int) ≤ (NN : Int)) = true := by simp; omega
                have hd2' : decide ((NN : Int) < 2) = false := by simp; omega
                clear hr h2
                cases bA
                · go_wp2_with (first | (go_at_call 13; ((with_reducible refine C13.out.mono ?_); rintro e w6 ⟨rfl, H6⟩)) | (go_at_call 14; ((with_reducible refine (C14.out _ H6.out).mono ?_); rintro e w7 ⟨rfl, H7⟩)) | (go_at_call 15; ((with_reducible refine (C15.out _ H7.out).mono ?_); rintro e w8 ⟨rfl, rfl⟩)))
                  go_roundw
                  case rel => exact ⟨i + 1, now2, next2, l2, g2, cap2, by have := HLT.out; omega, rfl, rfl, rfl, rfl, rfl, rfl, by congr 1, Lib.hid { HM2.out with me := H7.out }⟩
                  case measure => have := HLT.out; simp [intOf] <;> omega
                · go_wp2_with (first | (go_at_call 13; ((with_reducible refine C13.out.mono ?_); rintro e w6 ⟨rfl, H6⟩)) | (go_at_call 14; ((with_reducible refine (C14.out _ H6.out).mono ?_); rintro e w7 ⟨rfl, H7⟩)) | (go_at_call 15; ((with_reducible refine (C15.out _ H7.out).mono ?_); rintro e w8 ⟨rfl, rfl⟩)))
                  go_roundw
                  case rel => exact ⟨i + 1, now2, next2, l2, g2, cap2, by have := HLT.out; omega, rfl, rfl, rfl, rfl, rfl, rfl, by congr 1, Lib.hid { HM2.out with me := H7.out }⟩
                  case measure => have := HLT.out; simp [intOf] <;> omega
              · have hr : recv l2.c = 65535 := by rw [HRC.out, if_neg h2]
                have C13 := Lib.hid (HM2.out.me.receives 65535 hr.symm)
                have C14 := Lib.hid (fun (wz : World) (h : Me w wz Q l2 g2 cap2 l2.c.testBit) => h.cost 65535 (by unfold L.cost; rw [hr]; rfl))
                have C15 := Lib.hid (fun (wz : World) (h : Me w wz Q l2 g2 cap2 l2.c.testBit) => h.alive bA HBA.out)
                have hd2 : decide ((2 : Int) ≤ (NN : Int)) = false := by simp; omega
                have hd2' : decide ((NN : Int) < 2) = true := by simp; omega
                clear hr h2
                cases bA
                · go_wp2_with (first | (go_at_call 13; ((with_reducible refine C13.out.mono ?_); rintro e w6 ⟨rfl, H6⟩)) | (go_at_call 14; ((with_reducible refine (C14.out _ H6.out).mono ?_); rintro e w7 ⟨rfl, H7⟩)) | (go_at_call 15; ((with_reducible refine (C15.out _ H7.out).mono ?_); rintro e w8 ⟨rfl, rfl⟩)))
                  go_roundw
                  case rel => exact ⟨i + 1, now2, next2, l2, g2, cap2, by have := HLT.out; omega, rfl, rfl, rfl, rfl, rfl, rfl, by congr 1, Lib.hid { HM2.out with me := H7.out }⟩
                  case measure => have := HLT.out; simp [intOf] <;> omega
                · go_wp2_with (first | (go_at_call 13; ((with_reducible refine C13.out.mono ?_); rintro e w6 ⟨rfl, H6⟩)) | (go_at_call 14; ((with_reducible refine (C14.out _ H6.out).mono ?_); rintro e w7 ⟨rfl, H7⟩)) | (go_at_call 15; ((with_reducible refine (C15.out _ H7.out).mono ?_); rintro e w8 ⟨rfl, rfl⟩)))
                  go_roundw
                  case rel => exact ⟨i + 1, now2, next2, l2, g2, cap2, by have := HLT.out; omega, rfl, rfl, rfl, rfl, rfl, rfl, by congr 1, Lib.hid { HM2.out with me := H7.out }⟩
                  case measure => have := HLT.out; simp [intOf] <;> omega
    · obtain rfl : i = len1 := by omega
      go_wp2
      go_ret
      exact ⟨rfl, HM.out.me.in'.below⟩

set_option maxRecDepth 100000 in
theorem lifted (os : Os) (started : os.Started) (H : Type) (enc : TypeId × Value → H) :
    ReturnsInHanded {} Tryd.checked os 3 .any (fun w args => (Rows.linkPlaysSpec.pre enc Tryd.prog Tryd.f3 Rows.linkPlaysRow.domain false w args ∧ laidMet Tryd.prog Rows.linkPlaysRow.laid w) ∧ sizedMet enc Tryd.prog Tryd.f3 (OpenSpec.ofChange Rows.linkPlaysSpec) false w args)
      (Rows.linkPlaysSpec.post enc Tryd.prog Tryd.f3 false true false false) := by
  refine returnsInHanded_of_change_and (C := Tryd.checked) (X := fun w _ => laidMet Tryd.prog Rows.linkPlaysRow.laid w) (fun _ _ _ hh h => h.of_heap hh) own started (by kernel_rfl) Tryd.func3
    (ChangeSpec.witness_at (enc := enc) (C := Tryd.checked) (os := os) (X := fun w _ => laidMet Tryd.prog Rows.linkPlaysRow.laid w) false (laidWorld os) #[.int .u8 0, .slice none 0 0] 8 rfl (by kernel_rfl) (by kernel_rfl) (by kernel_rfl) (by kernel_rfl) (by kernel_rfl) (laid_met os _)) ?_
  intro W base args ds gs before hval0 hW hcnd _ hL _
  have hval : ∀ (j : Nat) t v, Tryd.f3.params[j]? = some t → args[j]? = some v → Value.okWide Tryd.prog W .any base t v := hval0
  have hW' := hW
  obtain ⟨p, q, hA0, hV, rfl, hfz, hnd⟩ := hW
  have hA : DataW.TrodAll enc Tryd.prog W 0 (fun _ => true) true Tryd.f3.params.toList args.toList ds p := hA0
  rw [Tryd.params3] at hA hval
  obtain ⟨v0, vs0, d0, ds0, p0, q0, hargs, rfl, rfl, h0, r0⟩ := trodAll_cons hA
  obtain ⟨v1, vs1, d1, ds1, p1, q1, rfl, rfl, rfl, h1, r1⟩ := trodAll_cons r0
  obtain ⟨rfl, rfl, rfl⟩ := trodAll_nil r1
  obtain rfl : args = #[v0, v1] := by cases args; simp_all
  obtain ⟨rfl, rfl⟩ := trodVars_none hV
  obtain ⟨a0, rfl, rfl, rfl, w0⟩ := open_int Tryd.underlying5 (hval 0 5 v0 rfl rfl) h0
  obtain ⟨a1, len1, cap1, rfl⟩ := okWide_slice Tryd.underlying22 (hval 1 22 v1 rfl rfl)
  have k1 := h1
  have lt1 : ∀ x ∈ p1, x.block < W.heap.size := by obtain ⟨m, hm⟩ := k1; exact DataW.trod_lt m _ _ _ hm
  obtain ⟨z1, w1⟩ : ∃ zs, IsActs W a1 len1 cap1 zs := by
    obtain ⟨fuel, hf⟩ := h1
    obtain ⟨a, l, c, ds, hcs, hds⟩ := acts_of hf
    simp [Value.cells] at hcs
    obtain ⟨rfl, rfl, rfl⟩ := hcs
    exact ⟨ds, hds⟩
  clear hA0 hval0
  refine (walk a0 a1 len1 cap1 z1 W w0 w1 (tab_of_laid hL)).mono fun e W' ⟨he, bel⟩ => ?_
  subst he
  exact ⟨_, rfl, _, _, _, [], _, [], hW', trodAll_mk1 (shut_bool Tryd.underlying4 _), (trodAll_cons_mk (shut_int Tryd.underlying5 w0) (trodAll_cons_mk (Below.trod laidOut (by kernel_rfl) (of_decide_eq_true (by kernel_rfl)) k1 bel lt1) trodAll_mk0)), rfl, bel.frame _, fun h => by cases h⟩

theorem over : Rows.linkPlaysRow.holds Tryd.pinned (OpenSpec.ofChange Rows.linkPlaysSpec) :=
  OpenClaim.holds_of_wide 3 Tryd.f3 rfl rfl rfl rfl rfl rfl rfl ⟨rfl, rfl, rfl, rfl, rfl⟩ rfl rfl rfl rfl rfl (by kernel_rfl) Tryd.func3 (by kernel_rfl)
    (of_decide_eq_true (by kernel_rfl)) (by unfold Func.isWrapper; first | (rw [if_pos (by decide +kernel)]; kernel_rfl) | (rw [if_neg (by decide +kernel)]; exact ⟨rfl, rfl⟩))
    (fun os started H enc _ => lifted os started H enc)

theorem proved : Rows.LinkPlaysCardSaid :=
  Claim7.holds_tied_plain_at .later [] [.data] true (true, "87b2e38641a56b7eaff657e7b5cc2fff9b28ffdf80f2b3f016b7b4f823f5af9e") false
    over (fun _ h => by cases h) (by kernel_rfl) (fun _ h => by cases h) linkPlays_row_tie rfl ⟨rfl, rfl⟩ (by kernel_rfl) rfl
    (fun f fn hf hfn => by
      obtain rfl : f = 3 := Option.some.inj ((show Tryd.prog.funcNamed "milestone/milestonelaw14.LinkPlays" = some 3 by kernel_rfl).symm.trans hf) |>.symm
      obtain rfl : fn = Tryd.f3 := (Option.some.inj (Tryd.func3.symm.trans hfn)).symm
      exact ⟨by kernel_rfl, fun j t ht => by
        rw [Tryd.params3] at ht
        have hm : t ∈ [5, 22] := by simpa using Array.mem_of_getElem? ht
        have hall : ([5, 22].all fun u => !Tryd.prog.wantsStandIn u) = true := by kernel_rfl
        exact (show Tryd.prog.wantsStandIn t = false by simpa using List.all_eq_true.1 hall t hm)⟩)
    (by kernel_rfl)
#print axioms proved
end Go.Proofs.YtmpcfnlddpofgaaDoor.linkPlays
