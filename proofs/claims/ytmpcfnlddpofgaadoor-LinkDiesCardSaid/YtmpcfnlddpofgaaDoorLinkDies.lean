/-
  'For every input the Go function milestonelaw14.LinkDies returns true, and each argument reads behind the call as it read before.'
  Conditions: none but the row's own (linux/amd64, sizes of what is read within the address space).
-/
import Derived.Test.YtmpcfnlddpofgaaDoorRows
import Derived.WalkKit
import Derived.ProofKit
import Derived.OpenShut
import Derived.ShutString
import Derived.ChangeOld
import Derived.Below
import Derived.Lib.SmallJoins
import Derived.Lib.Hide
import Derived.Test.YtmpcfnlddpofgaaDoorLf
import Derived.Test.YtmpcfnlddpofgaaDoorLaid
import Derived.Test.YtmpcfnlddpofgaaDoorCards
import Derived.Test.YtmpcfnlddpofgaaDoorTie
import Derived.SevenTiedAt
import Derived.Laws.Closers25b
namespace Go.Proofs.YtmpcfnlddpofgaaDoor.linkDies
open Lk
open Go.Sort
open Go.ChangeShapes Go.WideShapes Go.ChangeAt Go.RowKit
open Go.ChangeMaps (open_string shut_string)
set_option linter.unusedVariables false

theorem own : ownKnob Tryd.prog.godebug = none := by kernel_rfl
theorem laidOut : laidOutB Tryd.prog = true := by kernel_rfl

theorem walk (a0 : Int) (a1 : Int) (a2 : Int) (w : World) (w0 : (Lit.int .u8 a0).wf = true) (w1 : (Lit.int .u8 a1).wf = true) (w2 : (Lit.int .u16 a2).wf = true) (hp : Tab w) :
    Calls Tryd.prog 4 #[.int .u8 a0, .int .u8 a1, .int .u16 a2] w fun e w' => e = .returned (.bool true) ∧ Below w.heap.size w w' := by
  have b0 := bounds_u8 w0
  have b1 := bounds_u8 w1
  have b2 := bounds_u16 w2
  clear w0 w1 w2
  obtain ⟨S, rfl⟩ := Int.eq_ofNat_of_zero_le b0.1
  obtain ⟨H, rfl⟩ := Int.eq_ofNat_of_zero_le b1.1
  obtain ⟨C, rfl⟩ := Int.eq_ofNat_of_zero_le b2.1
  have hC : C < 65536 := by omega
  have hS : S ≤ 255 := by omega
  have hH : H ≤ 255 := by omega
  clear b0 b1 b2
  have c8 := awake_any w hp
  have HP := Lib.hid hp
  clear hp
  have hm30 : H % 30 < 30 := by omega
  go_enter Tryd.func4, Tryd.ntmps4
  go_wp2_with fail
  refine c8.mono ?_
  rintro e wa ⟨rfl, hb⟩
  have HB := Lib.hid hb
  clear hb
  go_wp2_with fail
  refine (in_new HB.out HP.out S (by omega)).mono ?_
  rintro e wb ⟨rfl, hi⟩
  have H0 : Hid (Hel w wb wa.heap.size 0 S) := Lib.hid ⟨_, hi, new_ok S (by omega), .inl ⟨rfl, rfl⟩⟩
  clear hi
  generalize wa.heap.size = Q at *
  go_wp2
  go_loopw [7, 9] (fun v7 v9 wr => ∃ i T : Nat, i ≤ 2 + H % 30 ∧ T ≤ S + 2 * i ∧ v7 = .int .u64 (T : Int) ∧ v9 = .int .i64 (i : Int) ∧ Hid (Hel w wr Q i T)) (fun _ v9 _ => 2 + H % 30 - (intOf v9).toNat)
  case atStart => exact ⟨0, S, by omega, by omega, rfl, rfl, H0⟩
  case round =>
    clear H0
    obtain ⟨i, T, hi, hT, rfl, rfl, HL⟩ := hrel
    by_cases hlt : i < 2 + H % 30
    · have C10 := Lib.hid (HL.out.round (by omega) (T + 2) (by omega))
      have hd : decide ((i : Int) < 2 + (H : Int) % 30) = true := by simp; omega
      have hw1 : IntKind.u64.wrap ((T : Int) + 2) = ((T + 2 : Nat) : Int) := by rw [IntKind.wrap_u64]; omega
      have hkw : IntKind.u64.wrap (i : Int) = (i : Int) := by rw [IntKind.wrap_u64]; omega
      go_wp2_with (first | (go_at_call 10; ((refine C10.out.mono ?_); rintro e w6 ⟨rfl, h6⟩; have H6 := Lib.hid h6; clear h6)) | simp only [hw1])
      go_roundw
      case rel => exact ⟨i + 1, T + 2, by omega, by omega, by congr 1, by congr 1, H6⟩
      case measure => simp [intOf]; omega
    · have hd : decide ((i : Int) < 2 + (H : Int) % 30) = false := by simp; omega
      have C11 := Lib.hid (HL.out.dies (by omega) (by omega) C hC)
      have hTb : T ≤ 1000 := by omega
      clear hT hi hlt
      go_wp2_with fail
      refine C11.out.mono ?_
      rintro e w4 ⟨rfl, l, c0, HX⟩
      have HD : Hid (Dies w w4 Q T 0 l 0 c0) := Lib.hid HX.out.1
      obtain ⟨W, HW⟩ : ∃ W, Hid (W = max C 1) := ⟨_, Lib.hid rfl⟩
      have C14 := Lib.hid (in_cost HD.out.in' HD.out.ok W (by rw [HX.out.2.1]; exact HW.out))
      have C15 := Lib.hid (fun w5 (h : In w w5 Q l) => in_alive h true (by have := HX.out.2.2; simp [this]))
      clear C11
      by_cases hM : C = 65535
      · have hW1 : ((W : Int) == 65535) = true := by have := HW.out; simp; omega
        have hW2 : ((C : Int) != 65535) = false := by simp; omega
        clear hM
        go_wp2_with (first | (go_at_call 14; ((refine C14.out.mono ?_); rintro e w5 ⟨rfl, h5⟩; have H5 := Lib.hid h5; clear h5)) | (go_at_call 15; ((refine (C15.out _ H5.out).mono ?_); rintro e w7 ⟨rfl, h7⟩; have HD := Lib.hid (HD.out.keep h7); clear h7 C14 C15)))
        go_loopw [7, 10] (fun v7 v10 wr => ∃ (j : Nat) (l : L) (k : Nat), j ≤ 20 ∧ v7 = .int .u64 ((T + j : Nat) : Int) ∧ v10 = .int .i64 ((j : Nat) : Int) ∧ Hid (Dies w wr Q T j l k c0)) (fun _ v10 _ => 20 - (intOf v10).toNat)
        case atStart => exact ⟨0, _, _, by omega, rfl, rfl, HD⟩
        case round =>
          clear HD
          obtain ⟨j, l, k, hj, rfl, rfl, HD⟩ := hrel
          by_cases hlt : j < 20
          · have C12 := Lib.hid (HD.out.next (by omega))
            have hd : decide ((j : Int) < 20) = true := by simp; omega
            have hw1 : IntKind.u64.wrap (((T + j : Nat) : Int) + 1) = ((T + j + 1 : Nat) : Int) := by rw [IntKind.wrap_u64]; omega
            generalize hz : T + j = z at *
            have HZ := Lib.hid hz
            clear hz
            go_wp2_with (first | (go_at_call 12; ((refine C12.out.mono ?_); rintro e w6 ⟨rfl, l', k', H6⟩)) | simp only [hw1])
            go_roundw
            case rel => exact ⟨j + 1, _, _, by omega, by have := HZ.out; congr 1; omega, by congr 1, H6⟩
            case measure => simp [intOf]; omega
          · have hd : decide ((j : Int) < 20) = false := by simp; omega
            obtain rfl : j = 20 := by omega
            have HLO := Lib.hid HD.out.lost
            have C14 := Lib.hid (in_cost HD.out.in' HD.out.ok 65535 HLO.out.symm)
            generalize hz : T + 20 = z at *
            have HZ := Lib.hid hz
            clear hz
            go_wp2_with (first | (go_at_call 14; ((refine C14.out.mono ?_); rintro e w5 ⟨rfl, h5⟩; have HD := Lib.hid (HD.out.keep h5); clear h5)))
            go_loopw [7, 12] (fun v7 v12 wr => ∃ (j : Nat) (l : L) (k : Nat), j ≤ 120 ∧ v7 = .int .u64 ((z + j : Nat) : Int) ∧ v12 = .int .i64 ((j : Nat) : Int) ∧ Hid (Dies w wr Q T (20 + j) l k c0)) (fun _ v12 _ => 120 - (intOf v12).toNat)
            case atStart => exact ⟨0, _, _, by omega, rfl, rfl, HD⟩
            case round =>
              clear HD HLO C14
              obtain ⟨j, l, k, hj, rfl, rfl, HD⟩ := hrel
              by_cases hlt : j < 120
              · have c12 := HD.out.next (by omega)
                rw [show T + (20 + j) + 1 = z + j + 1 by have := HZ.out; omega] at c12
                have C12 := Lib.hid c12
                clear c12
                have hd : decide ((j : Int) < 120) = true := by simp; omega
                have hzb : z ≤ 10000 := by have := HZ.out; omega
                have hw1 : IntKind.u64.wrap (((z + j : Nat) : Int) + 1) = ((z + j + 1 : Nat) : Int) := by rw [IntKind.wrap_u64]; omega
                generalize hy : z + j = y at *
                have HY := Lib.hid hy
                clear hy
                go_wp2_with (first | (go_at_call 12; ((refine C12.out.mono ?_); rintro e w6 ⟨rfl, l', k', H6⟩)) | simp only [hw1])
                go_roundw
                case rel => exact ⟨j + 1, _, _, by omega, by have := HY.out; rw [show z + (j + 1) = y + 1 by omega]; rfl, by congr 1, by rw [show 20 + (j + 1) = 20 + j + 1 by omega]; exact H6⟩
                case measure => simp [intOf]; omega
              · have hd : decide ((j : Int) < 120) = false := by simp; omega
                obtain rfl : j = 120 := by omega
                have hc := HD.out.gone
                have C15 := Lib.hid (in_alive HD.out.in' false (by simp [hc]))
                have C13 := Lib.hid (fun w5 (h : In w w5 Q l) => in_receives h HD.out.ok 65535 (by rw [hc]; rfl))
                clear hc
                go_wp2_with (first | (go_at_call 15; ((refine C15.out.mono ?_); rintro e w5 ⟨rfl, h5⟩; have H5 := Lib.hid h5; clear h5)) | (go_at_call 13; ((refine (C13.out _ H5.out).mono ?_); rintro e w7 ⟨rfl, h7⟩; have H7 := Lib.hid h7; clear h7)))
                go_ret
                exact ⟨rfl, H7.out.below⟩
      · have hW1 : ((W : Int) == 65535) = false := by have := HW.out; simp; omega
        clear hM
        go_wp2_with (first | (go_at_call 14; ((refine C14.out.mono ?_); rintro e w5 ⟨rfl, h5⟩; have H5 := Lib.hid h5; clear h5)) | (go_at_call 15; ((refine (C15.out _ H5.out).mono ?_); rintro e w7 ⟨rfl, h7⟩; have HD := Lib.hid (HD.out.keep h7); clear h7 C14 C15)))
        go_loopw [7, 10] (fun v7 v10 wr => ∃ (j : Nat) (l : L) (k : Nat), j ≤ 20 ∧ v7 = .int .u64 ((T + j : Nat) : Int) ∧ v10 = .int .i64 ((j : Nat) : Int) ∧ Hid (Dies w wr Q T j l k c0)) (fun _ v10 _ => 20 - (intOf v10).toNat)
        case atStart => exact ⟨0, _, _, by omega, rfl, rfl, HD⟩
        case round =>
          clear HD
          obtain ⟨j, l, k, hj, rfl, rfl, HD⟩ := hrel
          by_cases hlt : j < 20
          · have C12 := Lib.hid (HD.out.next (by omega))
            have hd : decide ((j : Int) < 20) = true := by simp; omega
            have hw1 : IntKind.u64.wrap (((T + j : Nat) : Int) + 1) = ((T + j + 1 : Nat) : Int) := by rw [IntKind.wrap_u64]; omega
            generalize hz : T + j = z at *
            have HZ := Lib.hid hz
            clear hz
            go_wp2_with (first | (go_at_call 12; ((refine C12.out.mono ?_); rintro e w6 ⟨rfl, l', k', H6⟩)) | simp only [hw1])
            go_roundw
            case rel => exact ⟨j + 1, _, _, by omega, by have := HZ.out; congr 1; omega, by congr 1, H6⟩
            case measure => simp [intOf]; omega
          · have hd : decide ((j : Int) < 20) = false := by simp; omega
            obtain rfl : j = 20 := by omega
            have HLO := Lib.hid HD.out.lost
            have C14 := Lib.hid (in_cost HD.out.in' HD.out.ok 65535 HLO.out.symm)
            generalize hz : T + 20 = z at *
            have HZ := Lib.hid hz
            clear hz
            go_wp2_with (first | (go_at_call 14; ((refine C14.out.mono ?_); rintro e w5 ⟨rfl, h5⟩; have HD := Lib.hid (HD.out.keep h5); clear h5)))
            go_loopw [7, 12] (fun v7 v12 wr => ∃ (j : Nat) (l : L) (k : Nat), j ≤ 120 ∧ v7 = .int .u64 ((z + j : Nat) : Int) ∧ v12 = .int .i64 ((j : Nat) : Int) ∧ Hid (Dies w wr Q T (20 + j) l k c0)) (fun _ v12 _ => 120 - (intOf v12).toNat)
            case atStart => exact ⟨0, _, _, by omega, rfl, rfl, HD⟩
            case round =>
              clear HD HLO C14
              obtain ⟨j, l, k, hj, rfl, rfl, HD⟩ := hrel
              by_cases hlt : j < 120
              · have c12 := HD.out.next (by omega)
                rw [show T + (20 + j) + 1 = z + j + 1 by have := HZ.out; omega] at c12
                have C12 := Lib.hid c12
                clear c12
                have hd : decide ((j : Int) < 120) = true := by simp; omega
                have hzb : z ≤ 10000 := by have := HZ.out; omega
                have hw1 : IntKind.u64.wrap (((z + j : Nat) : Int) + 1) = ((z + j + 1 : Nat) : Int) := by rw [IntKind.wrap_u64]; omega
                generalize hy : z + j = y at *
                have HY := Lib.hid hy
                clear hy
                go_wp2_with (first | (go_at_call 12; ((refine C12.out.mono ?_); rintro e w6 ⟨rfl, l', k', H6⟩)) | simp only [hw1])
                go_roundw
                case rel => exact ⟨j + 1, _, _, by omega, by have := HY.out; rw [show z + (j + 1) = y + 1 by omega]; rfl, by congr 1, by rw [show 20 + (j + 1) = 20 + j + 1 by omega]; exact H6⟩
                case measure => simp [intOf]; omega
              · have hd : decide ((j : Int) < 120) = false := by simp; omega
                obtain rfl : j = 120 := by omega
                have hc := HD.out.gone
                have C15 := Lib.hid (in_alive HD.out.in' false (by simp [hc]))
                have C13 := Lib.hid (fun w5 (h : In w w5 Q l) => in_receives h HD.out.ok 65535 (by rw [hc]; rfl))
                clear hc
                go_wp2_with (first | (go_at_call 15; ((refine C15.out.mono ?_); rintro e w5 ⟨rfl, h5⟩; have H5 := Lib.hid h5; clear h5)) | (go_at_call 13; ((refine (C13.out _ H5.out).mono ?_); rintro e w7 ⟨rfl, h7⟩; have H7 := Lib.hid h7; clear h7)))
                go_ret
                exact ⟨rfl, H7.out.below⟩

set_option maxRecDepth 100000 in
theorem lifted (os : Os) (started : os.Started) (H : Type) (enc : TypeId × Value → H) :
    ReturnsInHanded {} Tryd.checked os 4 .any (fun w args => (Rows.linkDiesSpec.pre enc Tryd.prog Tryd.f4 Rows.linkDiesRow.domain false w args ∧ laidMet Tryd.prog Rows.linkDiesRow.laid w) ∧ sizedMet enc Tryd.prog Tryd.f4 (OpenSpec.ofChange Rows.linkDiesSpec) false w args)
      (Rows.linkDiesSpec.post enc Tryd.prog Tryd.f4 false true false false) := by
  refine returnsInHanded_of_change_and (C := Tryd.checked) (X := fun w _ => laidMet Tryd.prog Rows.linkDiesRow.laid w) (fun _ _ _ hh h => h.of_heap hh) own started (by kernel_rfl) Tryd.func4
    (ChangeSpec.witness_at (enc := enc) (C := Tryd.checked) (os := os) (X := fun w _ => laidMet Tryd.prog Rows.linkDiesRow.laid w) false (laidWorld os) #[.int .u8 0, .int .u8 0, .int .u16 0] 8 rfl (by kernel_rfl) (by kernel_rfl) (by kernel_rfl) (by kernel_rfl) (by kernel_rfl) (laid_met os _)) ?_
  intro W base args ds gs before hval0 hW hcnd _ hL _
  have hval : ∀ (j : Nat) t v, Tryd.f4.params[j]? = some t → args[j]? = some v → Value.okWide Tryd.prog W .any base t v := hval0
  have hW' := hW
  obtain ⟨p, q, hA0, hV, rfl, hfz, hnd⟩ := hW
  have hA : DataW.TrodAll enc Tryd.prog W 0 (fun _ => true) true Tryd.f4.params.toList args.toList ds p := hA0
  rw [Tryd.params4] at hA hval
  obtain ⟨v0, vs0, d0, ds0, p0, q0, hargs, rfl, rfl, h0, r0⟩ := trodAll_cons hA
  obtain ⟨v1, vs1, d1, ds1, p1, q1, rfl, rfl, rfl, h1, r1⟩ := trodAll_cons r0
  obtain ⟨v2, vs2, d2, ds2, p2, q2, rfl, rfl, rfl, h2, r2⟩ := trodAll_cons r1
  obtain ⟨rfl, rfl, rfl⟩ := trodAll_nil r2
  obtain rfl : args = #[v0, v1, v2] := by cases args; simp_all
  obtain ⟨rfl, rfl⟩ := trodVars_none hV
  obtain ⟨a0, rfl, rfl, rfl, w0⟩ := open_int Tryd.underlying5 (hval 0 5 v0 rfl rfl) h0
  obtain ⟨a1, rfl, rfl, rfl, w1⟩ := open_int Tryd.underlying5 (hval 1 5 v1 rfl rfl) h1
  obtain ⟨a2, rfl, rfl, rfl, w2⟩ := open_int Tryd.underlying28 (hval 2 28 v2 rfl rfl) h2
  clear hA0 hval0
  refine (walk a0 a1 a2 W w0 w1 w2 (tab_of_laid hL)).mono fun e W' ⟨he, bel⟩ => ?_
  subst he
  exact ⟨_, rfl, _, _, _, [], _, [], hW', trodAll_mk1 (shut_bool Tryd.underlying4 _), (trodAll_cons_mk (shut_int Tryd.underlying5 w0) (trodAll_cons_mk (shut_int Tryd.underlying5 w1) (trodAll_cons_mk (shut_int Tryd.underlying28 w2) trodAll_mk0))), rfl, bel.frame _, fun h => by cases h⟩

theorem over : Rows.linkDiesRow.holds Tryd.pinned (OpenSpec.ofChange Rows.linkDiesSpec) :=
  OpenClaim.holds_of_wide 4 Tryd.f4 rfl rfl rfl rfl rfl rfl rfl ⟨rfl, rfl, rfl, rfl, rfl⟩ rfl rfl rfl rfl rfl (by kernel_rfl) Tryd.func4 (by kernel_rfl)
    (of_decide_eq_true (by kernel_rfl)) (by unfold Func.isWrapper; first | (rw [if_pos (by decide +kernel)]; kernel_rfl) | (rw [if_neg (by decide +kernel)]; exact ⟨rfl, rfl⟩))
    (fun os started H enc _ => lifted os started H enc)

theorem proved : Rows.LinkDiesCardSaid :=
  Claim7.holds_tied_plain_at .later [] [.data] true (true, "87b2e38641a56b7eaff657e7b5cc2fff9b28ffdf80f2b3f016b7b4f823f5af9e") false
    over (fun _ h => by cases h) (by kernel_rfl) (fun _ h => by cases h) linkDies_row_tie rfl ⟨rfl, rfl⟩ (by kernel_rfl) rfl
    (fun f fn hf hfn => by
      obtain rfl : f = 4 := Option.some.inj ((show Tryd.prog.funcNamed "milestone/milestonelaw14.LinkDies" = some 4 by kernel_rfl).symm.trans hf) |>.symm
      obtain rfl : fn = Tryd.f4 := (Option.some.inj (Tryd.func4.symm.trans hfn)).symm
      exact ⟨by kernel_rfl, fun j t ht => by
        rw [Tryd.params4] at ht
        have hm : t ∈ [5, 5, 28] := by simpa using Array.mem_of_getElem? ht
        have hall : ([5, 5, 28].all fun u => !Tryd.prog.wantsStandIn u) = true := by kernel_rfl
        exact (show Tryd.prog.wantsStandIn t = false by simpa using List.all_eq_true.1 hall t hm)⟩)
    (by kernel_rfl)
#print axioms proved
end Go.Proofs.YtmpcfnlddpofgaaDoor.linkDies
