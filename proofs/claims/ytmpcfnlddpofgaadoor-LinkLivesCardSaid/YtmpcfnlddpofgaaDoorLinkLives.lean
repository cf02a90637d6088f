/-
  'For every input the Go function milestonelaw14.LinkLives returns true, and each argument reads behind the call as it read before.'
  Conditions: none but the row's own (linux/amd64, sizes of what is read within the address space).
-/
import Derived.Test.YtmpcfnlddpofgaaDoorRows
import Derived.WalkKit
import Derived.ProofKit
import Derived.OpenShut
import Derived.ShutString
import Derived.ChangeOld
import Derived.Below
import Derived.Lib.SmallJoins
import Derived.Lib.Hide
import Derived.Test.YtmpcfnlddpofgaaDoorLe
import Derived.Test.YtmpcfnlddpofgaaDoorLaid
import Derived.Test.YtmpcfnlddpofgaaDoorCards
import Derived.Test.YtmpcfnlddpofgaaDoorTie
import Derived.SevenTiedAt
import Derived.Laws.Closers25b
namespace Go.Proofs.YtmpcfnlddpofgaaDoor.linkLives
open Lk
open Go.Sort
open Go.ChangeShapes Go.WideShapes Go.ChangeAt Go.RowKit
open Go.ChangeMaps (open_string shut_string)
set_option linter.unusedVariables false

theorem own : ownKnob Tryd.prog.godebug = none := by kernel_rfl
theorem laidOut : laidOutB Tryd.prog = true := by kernel_rfl

theorem walk (a0 : Int) (a1 : Int) (a2 : Int) (w : World) (w0 : (Lit.int .u16 a0).wf = true) (w1 : (Lit.int .u8 a1).wf = true) (w2 : (Lit.int .u8 a2).wf = true) (hp : Tab w) :
    Calls Tryd.prog 5 #[.int .u16 a0, .int .u8 a1, .int .u8 a2] w fun e w' => e = .returned (.bool true) ∧ Below w.heap.size w w' := by
  have b0 := bounds_u16 w0
  have b1 := bounds_u8 w1
  have b2 := bounds_u8 w2
  clear w0 w1 w2
  obtain ⟨C, rfl⟩ := Int.eq_ofNat_of_zero_le b0.1
  obtain ⟨R, rfl⟩ := Int.eq_ofNat_of_zero_le b1.1
  obtain ⟨G, rfl⟩ := Int.eq_ofNat_of_zero_le b2.1
  have hC : C < 65536 := by omega
  have hR : R ≤ 255 := by omega
  have hG : G ≤ 255 := by omega
  clear b0 b1 b2
  have c8 := awake_any w hp
  by_cases hm : C = 65535
  · subst hm
    have HP := Lib.hid hp
    clear hp
    go_enter Tryd.func5, Tryd.ntmps5
    go_wp2_with fail
    refine c8.mono ?_
    rintro e wa ⟨rfl, hb⟩
    have c8b := awake_any wa (tab_below HP.out hb (tab_size HP.out))
    go_wp2_with (go_at_call 8; refine c8b.mono ?_; rintro e w' ⟨rfl, hb2⟩)
    go_ret
    exact ⟨rfl, bstep hb hb2⟩
  have hmx : ((C : Int) == 65535) = false := by simp; omega
  have hg : IntKind.u64.wrap (1 + ((G : Int) % 5)) = ((1 + G % 5 : Nat) : Int) := by rw [IntKind.wrap_u64]; omega
  have hgb : 1 + G % 5 ≤ 5 := by omega
  obtain ⟨g, hgg⟩ : ∃ g, 1 + G % 5 = g := ⟨_, rfl⟩
  rw [hgg] at hg hgb
  clear hgg
  have HP := Lib.hid hp
  clear hp
  go_enter Tryd.func5, Tryd.ntmps5
  go_wp2_with fail
  refine c8.mono ?_
  rintro e wa ⟨rfl, hb⟩
  have HB := Lib.hid hb
  clear hb
  go_wp2_with fail
  refine (in_new HB.out HP.out 5 (by omega)).mono ?_
  rintro e wb ⟨rfl, hi⟩
  have H0 : Hid (Lives w wb wa.heap.size 0 5) := Lib.hid ⟨_, hi, new_ok 5 (by omega), .inl ⟨rfl, rfl⟩⟩
  clear hi
  generalize wa.heap.size = Q at *
  go_wp2_with (simp only [hg])
  go_loopw [7, 10] (fun v7 v10 wr => ∃ k T : Nat, k ≤ 2 + R ∧ T ≤ 5 + 5 * k ∧ v7 = .int .u64 (T : Int) ∧ v10 = .int .i64 (k : Int) ∧ Hid (Lives w wr Q k T)) (fun _ v10 _ => 2 + R - (intOf v10).toNat)
  case atStart => exact ⟨0, 5, by omega, by omega, rfl, rfl, H0⟩
  case round =>
    clear H0
    obtain ⟨k, T, hk, hT, rfl, rfl, HL⟩ := hrel
    by_cases hlt : k < 2 + R
    · have c10 := HL.out.round (by omega) (by omega) C hC
      have C10 := Lib.hid c10
      clear c10
      have hd : decide ((k : Int) < 2 + (R : Int)) = true := by simp; omega
      have hkw : IntKind.u64.wrap (k : Int) = (k : Int) := by rw [IntKind.wrap_u64]; omega
      go_wp2_with fail
      refine C10.out.mono ?_
      rintro e w3 ⟨rfl, c11⟩
      have C11 := Lib.hid c11
      clear c11
      go_wp2_with fail
      refine C11.out.mono ?_
      rintro e w4 ⟨rfl, l, HS⟩
      clear C10 C11
      by_cases hc0 : C = 0
      · have HC0 := Lib.hid hc0; have hc1 : ((C : Int) == 0) = true := by simp; omega
        clear hc0
        by_cases hk0 : k = 0
        · have HK0 := Lib.hid hk0
          have hdk : decide ((0 : Int) < (k : Int)) = false := by simp; omega
          have hdk2 : decide (0 < k) = false := by simp; omega
          clear hk0
          go_wp2
          go_loopw [7, 12] (fun v7 v12 wr => ∃ j : Nat, j ≤ g ∧ v7 = .int .u64 ((T + j : Nat) : Int) ∧ v12 = .int .u64 ((j : Nat) : Int) ∧ Hid (Said w wr Q k T C l)) (fun _ v12 _ => g - (intOf v12).toNat)
          case atStart => exact ⟨0, by omega, rfl, rfl, HS⟩
          case round =>
            obtain ⟨j, hj, rfl, rfl, HJ⟩ := hrel
            by_cases hlt : j < g
            · have c12 := in_still HJ.out.in' HJ.out.ok (T + j + 1) (by omega) (by rw [HJ.out.m]; omega) (by rw [HJ.out.h]; omega)
              have C12 := Lib.hid c12
              clear c12
              have hd : decide ((j : Int) < (g : Int)) = true := by simp; omega
              have hw1 : IntKind.u64.wrap (((T + j : Nat) : Int) + 1) = ((T + j + 1 : Nat) : Int) := by rw [IntKind.wrap_u64]; omega
              have hw2 : IntKind.u64.wrap ((j : Int) + 1) = ((j + 1 : Nat) : Int) := by rw [IntKind.wrap_u64]; omega
              generalize hz : T + j = z at *
              have HZ := Lib.hid hz
              clear hz
              go_wp2_with (first | (go_at_call 12; ((refine C12.out.mono ?_); rintro e w6 ⟨rfl, h6⟩; have H6 := Lib.hid (HJ.out.next h6); clear h6)) | simp only [hw1])
              go_roundw
              case rel => exact ⟨j + 1, by omega, by have := HZ.out; congr 1; omega, by congr 1, H6⟩
              case measure => simp [intOf]; omega
            · have hd : decide ((j : Int) < (g : Int)) = false := by simp; omega
              obtain rfl : j = g := by omega
              have HK := Lib.hid (HJ.out.lives (T + j))
              have hwk : IntKind.i64.wrap ((k : Int) + 1) = ((k + 1 : Nat) : Int) := by rw [IntKind.wrap_i64] <;> omega
              generalize hz : T + j = z at *
              have HZ := Lib.hid hz
              clear hz
              go_wp2
              go_roundw
              case rel => exact ⟨k + 1, z, by omega, by have := HZ.out; omega, rfl, by congr 1, HK⟩
              case measure => simp [intOf]; omega
        · have hdk : decide ((0 : Int) < (k : Int)) = true := by simp; omega
          have c14 := in_cost HS.out.in' HS.out.ok 1 (by rw [HS.out.cost (by omega)]; have := HC0.out; omega)
          have C14 := Lib.hid c14
          clear c14
          go_wp2_with (first | (go_at_call 14; ((refine C14.out.mono ?_); rintro e w5 ⟨rfl, h5⟩; have HS := Lib.hid (HS.out.next h5); clear h5)))
          go_loopw [7, 12] (fun v7 v12 wr => ∃ j : Nat, j ≤ g ∧ v7 = .int .u64 ((T + j : Nat) : Int) ∧ v12 = .int .u64 ((j : Nat) : Int) ∧ Hid (Said w wr Q k T C l)) (fun _ v12 _ => g - (intOf v12).toNat)
          case atStart => exact ⟨0, by omega, rfl, rfl, HS⟩
          case round =>
            obtain ⟨j, hj, rfl, rfl, HJ⟩ := hrel
            by_cases hlt : j < g
            · have c12 := in_still HJ.out.in' HJ.out.ok (T + j + 1) (by omega) (by rw [HJ.out.m]; omega) (by rw [HJ.out.h]; omega)
              have C12 := Lib.hid c12
              clear c12
              have hd : decide ((j : Int) < (g : Int)) = true := by simp; omega
              have hw1 : IntKind.u64.wrap (((T + j : Nat) : Int) + 1) = ((T + j + 1 : Nat) : Int) := by rw [IntKind.wrap_u64]; omega
              have hw2 : IntKind.u64.wrap ((j : Int) + 1) = ((j + 1 : Nat) : Int) := by rw [IntKind.wrap_u64]; omega
              generalize hz : T + j = z at *
              have HZ := Lib.hid hz
              clear hz
              go_wp2_with (first | (go_at_call 12; ((refine C12.out.mono ?_); rintro e w6 ⟨rfl, h6⟩; have H6 := Lib.hid (HJ.out.next h6); clear h6)) | simp only [hw1])
              go_roundw
              case rel => exact ⟨j + 1, by omega, by have := HZ.out; congr 1; omega, by congr 1, H6⟩
              case measure => simp [intOf]; omega
            · have hd : decide ((j : Int) < (g : Int)) = false := by simp; omega
              obtain rfl : j = g := by omega
              have HK := Lib.hid (HJ.out.lives (T + j))
              have hwk : IntKind.i64.wrap ((k : Int) + 1) = ((k + 1 : Nat) : Int) := by rw [IntKind.wrap_i64] <;> omega
              generalize hz : T + j = z at *
              have HZ := Lib.hid hz
              clear hz
              go_wp2
              go_roundw
              case rel => exact ⟨k + 1, z, by omega, by have := HZ.out; omega, rfl, by congr 1, HK⟩
              case measure => simp [intOf]; omega
      · have hc1 : ((C : Int) == 0) = false := by simp; omega
        by_cases hk0 : k = 0
        · have HK0 := Lib.hid hk0
          have hdk : decide ((0 : Int) < (k : Int)) = false := by simp; omega
          have hdk2 : decide (0 < k) = false := by simp; omega
          clear hk0
          go_wp2
          go_loopw [7, 12] (fun v7 v12 wr => ∃ j : Nat, j ≤ g ∧ v7 = .int .u64 ((T + j : Nat) : Int) ∧ v12 = .int .u64 ((j : Nat) : Int) ∧ Hid (Said w wr Q k T C l)) (fun _ v12 _ => g - (intOf v12).toNat)
          case atStart => exact ⟨0, by omega, rfl, rfl, HS⟩
          case round =>
            obtain ⟨j, hj, rfl, rfl, HJ⟩ := hrel
            by_cases hlt : j < g
            · have c12 := in_still HJ.out.in' HJ.out.ok (T + j + 1) (by omega) (by rw [HJ.out.m]; omega) (by rw [HJ.out.h]; omega)
              have C12 := Lib.hid c12
              clear c12
              have hd : decide ((j : Int) < (g : Int)) = true := by simp; omega
              have hw1 : IntKind.u64.wrap (((T + j : Nat) : Int) + 1) = ((T + j + 1 : Nat) : Int) := by rw [IntKind.wrap_u64]; omega
              have hw2 : IntKind.u64.wrap ((j : Int) + 1) = ((j + 1 : Nat) : Int) := by rw [IntKind.wrap_u64]; omega
              generalize hz : T + j = z at *
              have HZ := Lib.hid hz
              clear hz
              go_wp2_with (first | (go_at_call 12; ((refine C12.out.mono ?_); rintro e w6 ⟨rfl, h6⟩; have H6 := Lib.hid (HJ.out.next h6); clear h6)) | simp only [hw1])
              go_roundw
              case rel => exact ⟨j + 1, by omega, by have := HZ.out; congr 1; omega, by congr 1, H6⟩
              case measure => simp [intOf]; omega
            · have hd : decide ((j : Int) < (g : Int)) = false := by simp; omega
              obtain rfl : j = g := by omega
              have HK := Lib.hid (HJ.out.lives (T + j))
              have hwk : IntKind.i64.wrap ((k : Int) + 1) = ((k + 1 : Nat) : Int) := by rw [IntKind.wrap_i64] <;> omega
              generalize hz : T + j = z at *
              have HZ := Lib.hid hz
              clear hz
              go_wp2
              go_roundw
              case rel => exact ⟨k + 1, z, by omega, by have := HZ.out; omega, rfl, by congr 1, HK⟩
              case measure => simp [intOf]; omega
        · have hdk : decide ((0 : Int) < (k : Int)) = true := by simp; omega
          have c14 := in_cost HS.out.in' HS.out.ok C (by rw [HS.out.cost (by omega)]; omega)
          have C14 := Lib.hid c14
          clear c14
          go_wp2_with (first | (go_at_call 14; ((refine C14.out.mono ?_); rintro e w5 ⟨rfl, h5⟩; have HS := Lib.hid (HS.out.next h5); clear h5)))
          go_loopw [7, 12] (fun v7 v12 wr => ∃ j : Nat, j ≤ g ∧ v7 = .int .u64 ((T + j : Nat) : Int) ∧ v12 = .int .u64 ((j : Nat) : Int) ∧ Hid (Said w wr Q k T C l)) (fun _ v12 _ => g - (intOf v12).toNat)
          case atStart => exact ⟨0, by omega, rfl, rfl, HS⟩
          case round =>
            obtain ⟨j, hj, rfl, rfl, HJ⟩ := hrel
            by_cases hlt : j < g
            · have c12 := in_still HJ.out.in' HJ.out.ok (T + j + 1) (by omega) (by rw [HJ.out.m]; omega) (by rw [HJ.out.h]; omega)
              have C12 := Lib.hid c12
              clear c12
              have hd : decide ((j : Int) < (g : Int)) = true := by simp; omega
              have hw1 : IntKind.u64.wrap (((T + j : Nat) : Int) + 1) = ((T + j + 1 : Nat) : Int) := by rw [IntKind.wrap_u64]; omega
              have hw2 : IntKind.u64.wrap ((j : Int) + 1) = ((j + 1 : Nat) : Int) := by rw [IntKind.wrap_u64]; omega
              generalize hz : T + j = z at *
              have HZ := Lib.hid hz
              clear hz
              go_wp2_with (first | (go_at_call 12; ((refine C12.out.mono ?_); rintro e w6 ⟨rfl, h6⟩; have H6 := Lib.hid (HJ.out.next h6); clear h6)) | simp only [hw1])
              go_roundw
              case rel => exact ⟨j + 1, by omega, by have := HZ.out; congr 1; omega, by congr 1, H6⟩
              case measure => simp [intOf]; omega
            · have hd : decide ((j : Int) < (g : Int)) = false := by simp; omega
              obtain rfl : j = g := by omega
              have HK := Lib.hid (HJ.out.lives (T + j))
              have hwk : IntKind.i64.wrap ((k : Int) + 1) = ((k + 1 : Nat) : Int) := by rw [IntKind.wrap_i64] <;> omega
              generalize hz : T + j = z at *
              have HZ := Lib.hid hz
              clear hz
              go_wp2
              go_roundw
              case rel => exact ⟨k + 1, z, by omega, by have := HZ.out; omega, rfl, by congr 1, HK⟩
              case measure => simp [intOf]; omega
    · obtain rfl : k = 2 + R := by omega
      have hd : decide (((2 + R : Nat) : Int) < 2 + (R : Int)) = false := by simp
      have c15 : ∃ l, Hid (In w wr Q l ∧ l.Ok ∧ l.c % 2 = 1) := by
        obtain ⟨l, h1, h2, h3⟩ := HL.out.go
        exact ⟨l, Lib.hid ⟨h1, h2, by omega⟩⟩
      obtain ⟨l, HI⟩ := c15
      have C15 := Lib.hid (in_alive HI.out.1 true (by have := HI.out.2.2; simp; omega))
      generalize ((2 + R : Nat) : Int) = z at *
      go_wp2_with (first | (go_at_call 15; ((refine C15.out.mono ?_); rintro e w5 ⟨rfl, h5⟩)))
      go_ret
      exact ⟨rfl, h5.below⟩

set_option maxRecDepth 100000 in
theorem lifted (os : Os) (started : os.Started) (H : Type) (enc : TypeId × Value → H) :
    ReturnsInHanded {} Tryd.checked os 5 .any (fun w args => (Rows.linkLivesSpec.pre enc Tryd.prog Tryd.f5 Rows.linkLivesRow.domain false w args ∧ laidMet Tryd.prog Rows.linkLivesRow.laid w) ∧ sizedMet enc Tryd.prog Tryd.f5 (OpenSpec.ofChange Rows.linkLivesSpec) false w args)
      (Rows.linkLivesSpec.post enc Tryd.prog Tryd.f5 false true false false) := by
  refine returnsInHanded_of_change_and (C := Tryd.checked) (X := fun w _ => laidMet Tryd.prog Rows.linkLivesRow.laid w) (fun _ _ _ hh h => h.of_heap hh) own started (by kernel_rfl) Tryd.func5
    (ChangeSpec.witness_at (enc := enc) (C := Tryd.checked) (os := os) (X := fun w _ => laidMet Tryd.prog Rows.linkLivesRow.laid w) false (laidWorld os) #[.int .u16 0, .int .u8 0, .int .u8 0] 8 rfl (by kernel_rfl) (by kernel_rfl) (by kernel_rfl) (by kernel_rfl) (by kernel_rfl) (laid_met os _)) ?_
  intro W base args ds gs before hval0 hW hcnd _ hL _
  have hval : ∀ (j : Nat) t v, Tryd.f5.params[j]? = some t → args[j]? = some v → Value.okWide Tryd.prog W .any base t v := hval0
  have hW' := hW
  obtain ⟨p, q, hA0, hV, rfl, hfz, hnd⟩ := hW
  have hA : DataW.TrodAll enc Tryd.prog W 0 (fun _ => true) true Tryd.f5.params.toList args.toList ds p := hA0
  rw [Tryd.params5] at hA hval
  obtain ⟨v0, vs0, d0, ds0, p0, q0, hargs, rfl, rfl, h0, r0⟩ := trodAll_cons hA
  obtain ⟨v1, vs1, d1, ds1, p1, q1, rfl, rfl, rfl, h1, r1⟩ := trodAll_cons r0
  obtain ⟨v2, vs2, d2, ds2, p2, q2, rfl, rfl, rfl, h2, r2⟩ := trodAll_cons r1
  obtain ⟨rfl, rfl, rfl⟩ := trodAll_nil r2
  obtain rfl : args = #[v0, v1, v2] := by cases args; simp_all
  obtain ⟨rfl, rfl⟩ := trodVars_none hV
  obtain ⟨a0, rfl, rfl, rfl, w0⟩ := open_int Tryd.underlying28 (hval 0 28 v0 rfl rfl) h0
  obtain ⟨a1, rfl, rfl, rfl, w1⟩ := open_int Tryd.underlying5 (hval 1 5 v1 rfl rfl) h1
  obtain ⟨a2, rfl, rfl, rfl, w2⟩ := open_int Tryd.underlying5 (hval 2 5 v2 rfl rfl) h2
  clear hA0 hval0
  refine (walk a0 a1 a2 W w0 w1 w2 (tab_of_laid hL)).mono fun e W' ⟨he, bel⟩ => ?_
  subst he
  exact ⟨_, rfl, _, _, _, [], _, [], hW', trodAll_mk1 (shut_bool Tryd.underlying4 _), (trodAll_cons_mk (shut_int Tryd.underlying28 w0) (trodAll_cons_mk (shut_int Tryd.underlying5 w1) (trodAll_cons_mk (shut_int Tryd.underlying5 w2) trodAll_mk0))), rfl, bel.frame _, fun h => by cases h⟩

theorem over : Rows.linkLivesRow.holds Tryd.pinned (OpenSpec.ofChange Rows.linkLivesSpec) :=
  OpenClaim.holds_of_wide 5 Tryd.f5 rfl rfl rfl rfl rfl rfl rfl ⟨rfl, rfl, rfl, rfl, rfl⟩ rfl rfl rfl rfl rfl (by kernel_rfl) Tryd.func5 (by kernel_rfl)
    (of_decide_eq_true (by kernel_rfl)) (by unfold Func.isWrapper; first | (rw [if_pos (by decide +kernel)]; kernel_rfl) | (rw [if_neg (by decide +kernel)]; exact ⟨rfl, rfl⟩))
    (fun os started H enc _ => lifted os started H enc)

theorem proved : Rows.LinkLivesCardSaid :=
  Claim7.holds_tied_plain_at .later [] [.data] true (true, "87b2e38641a56b7eaff657e7b5cc2fff9b28ffdf80f2b3f016b7b4f823f5af9e") false
    over (fun _ h => by cases h) (by kernel_rfl) (fun _ h => by cases h) linkLives_row_tie rfl ⟨rfl, rfl⟩ (by kernel_rfl) rfl
    (fun f fn hf hfn => by
      obtain rfl : f = 5 := Option.some.inj ((show Tryd.prog.funcNamed "milestone/milestonelaw14.LinkLives" = some 5 by kernel_rfl).symm.trans hf) |>.symm
      obtain rfl : fn = Tryd.f5 := (Option.some.inj (Tryd.func5.symm.trans hfn)).symm
      exact ⟨by kernel_rfl, fun j t ht => by
        rw [Tryd.params5] at ht
        have hm : t ∈ [28, 5, 5] := by simpa using Array.mem_of_getElem? ht
        have hall : ([28, 5, 5].all fun u => !Tryd.prog.wantsStandIn u) = true := by kernel_rfl
        exact (show Tryd.prog.wantsStandIn t = false by simpa using List.all_eq_true.1 hall t hm)⟩)
    (by kernel_rfl)
#print axioms proved
end Go.Proofs.YtmpcfnlddpofgaaDoor.linkLives
