/- The law on a full shelf, walked. -/
import Derived.Test.YtdbhgkbmbbjpdaaGreatDoorOy
import Derived.Lib.AppendZeros
namespace Go.Proofs.YtdbhgkbmbbjpdaaGreatDoor.Chr
open Go.ChangeShapes Go.WideShapes Go.ChangeAt Go.RowKit
open Shf (S str)
open Coin (Rd Row Own sz coin got Pur takeV endV CoinSaid)
open Frm (pack err size kind cnt body noItem itemV OneSaid)
set_option maxRecDepth 8000
set_option linter.unusedVariables false
open Shf (Tag Ext Rep M RdN get Fine nameOk act_now ages wo wi Mv)
theorem row3m {w : World} {g : Nat} {v0 v1 v2 : Value} {t : Nat} (h : w.heap[g]? = some (.cells #[v0, v1, v2] t (0, 0))) : (w.cell? ⟨g, 0, none⟩ = some v0 ∧ w.cell? ⟨g, 1, none⟩ = some v1 ∧ w.cell? ⟨g, 2, none⟩ = some v2) ∧ w.frozen? ⟨g, 0, none⟩ = false := by
  refine ⟨⟨?_, ?_, ?_⟩, frozen_of_row w g 0 _ t h⟩
  all_goals (rw [cell_of_row w g _ _ t (0, 0) h]; rfl)
theorem lp0 {w w3 : World} {T : Nat → Tag} {p q : Nat} {m : M} {mo room : Nat} {nb : UInt8} (K : Kq w.heap.size w (fun _ => .none) w3 T) (R : Rep w3 T q m) (C : CAt w.heap.size w3 T p q ⟨mo, 1, 0, 0, [], [], false⟩) (cg : CG ⟨mo, 1, 0, 0, [], [], false⟩ m) (rm : m.room = (room : Int)) (dn : m.done ≤ 5) (nm : Nms m 3) :
    Lp w (w3.alloc (.cells #[.slice none 0 0, .int .i64 0, .int .i64 0] 32)) T p q w3.heap.size m ⟨mo, 1, 0, 0, [], [], false⟩ (.slice none 0 0) mo room 0 nb := by
  have B : Below w3.heap.size w3 (w3.alloc (.cells #[.slice none 0 0, .int .i64 0, .int .i64 0] 32)) := (Below.refl _ _).alloc (Nat.le_refl _) _
  have Bw := below_kq K
  refine ⟨⟨Bw.trans (B.mono Bw.size), fun b hb => K.tag b hb rfl, heap_alloc_new w3 _, rep_old R (Nat.le_refl _), Bw.size, OZ.nil _, fun g hg => by cases hg⟩, R.below B, C.keep (kp_below B T), cg, ?_, rm, dn, nm, rfl⟩
  refine ⟨⟨rfl, rfl, rfl, rfl, rfl⟩, rfl, Nat.le_refl _, rfl, fun d hd => (by cases hd), fun d hd => (by cases hd), Nat.zero_le _⟩
set_option maxHeartbeats 4000000 in
theorem full_any (w : World) (mo room n : Nat) (hmo : mo < 256) (hroom : room < 65536) (hn : n < 256) :
    Calls Tryz.prog 5 #[.int .u8 (mo : Int), .int .u16 (room : Int), .int .u8 (n : Int)] w fun e w' => e = .returned (.bool true) ∧ Below w.heap.size w w' := by
  obtain ⟨rr, hrr⟩ : ∃ rr, rr = room % 800 := ⟨_, rfl⟩
  have hr1 : (room : Int).tmod 800 = (rr : Int) := by rw [Int.tmod_eq_emod_of_nonneg (by omega)]; omega
  obtain ⟨rm, hrm⟩ : ∃ rm, rm = 200 + rr := ⟨_, rfl⟩
  have hr2 : (200 : Int) + (rr : Int) = (rm : Int) := by omega
  have hw1 : IntKind.i64.wrap (room : Int) = room := by rw [IntKind.wrap_i64]; omega
  have hw2 : IntKind.i64.wrap (rr : Int) = rr := by rw [IntKind.wrap_i64]; omega
  have hw3 : IntKind.i64.wrap (rm : Int) = rm := by rw [IntKind.wrap_i64]; omega
  obtain ⟨mo2, hm2⟩ : ∃ m, m = 20 + mo := ⟨_, rfl⟩
  have hm3 : (20 : Int) + (mo : Int) = (mo2 : Int) := by omega
  have hw4 : IntKind.i64.wrap (mo : Int) = mo := by rw [IntKind.wrap_i64]; omega
  have hw5 : IntKind.i64.wrap (mo2 : Int) = mo2 := by rw [IntKind.wrap_i64]; omega
  obtain ⟨n3, hn3⟩ : ∃ n3, n3 = n % 3 := ⟨_, rfl⟩
  have hn4 : (n : Int).tmod 3 = (n3 : Int) := by rw [Int.tmod_eq_emod_of_nonneg (by omega)]; omega
  obtain ⟨kI, hkI⟩ : ∃ kI, kI = 107 + n3 := ⟨_, rfl⟩
  have hn5 : (107 : Int) + (n3 : Int) = (kI : Int) := by omega
  have hw6 : IntKind.u8.wrap (n3 : Int) = n3 := by rw [IntKind.wrap_u8]; omega
  have hw7 : IntKind.u8.wrap (kI : Int) = kI := by rw [IntKind.wrap_u8]; omega
  obtain ⟨nb, hnb⟩ : ∃ nb : UInt8, nb = UInt8.ofNat n := ⟨_, rfl⟩
  have hnbn : nb.toNat = n := by rw [hnb]; simp; omega
  obtain ⟨kk, hkk0⟩ : ∃ kk : UInt8, kk = UInt8.ofNat kI := ⟨_, rfl⟩
  have hkkI : kk.toNat = kI := by rw [hkk0]; simp; omega
  have hkk : kk.toNat = 107 + nb.toNat % 3 := by rw [hkkI, hnbn]; omega
  have hrm1 : 200 ≤ rm ∧ rm ≤ 999 := by omega
  have HBy : Hid (∀ W, Calls Tryz.prog 22 #[.int .u8 (n : Int)] W fun e w' => ∃ g k, e = .returned (.slice (some ⟨g, 0, none⟩) k k) ∧ k = (byL nb.toNat).length ∧ Row w' g (byL nb.toNat) ∧ W.heap.size ≤ g ∧ Below W.heap.size W w') := fun W => by rw [hnbn]; exact by_any W n hn
  have HK := Lib.hid (And.intro hkk (And.intro hkkI (And.intro hrm1 hnb)))
  have hb8 : Coin.b8 nb = .int .u8 (n : Int) := by unfold Coin.b8; rw [hnbn]
  have HB8 := Lib.hid hb8
  clear hrr hrm hm2 hn3 hkI hnb hkk0 hkkI hkk hrm1 hnbn hb8 hn hroom hmo
  go_enter Tryz.func5, Tryz.ntmps5
  go_upto_region 3 with (go_at_call 9; (with_reducible refine (awake_any _).mono ?_); (rintro e w1 ⟨rfl, B1⟩; have HB1 := Lib.hid B1; clear B1))
  have c10 := Shf.new_rep w1 (rm : Int) (by have := HK.out.2.2.1.2; omega)
  go_upto_region 4 with (go_at_call 10; (with_reducible refine c10.mono ?_); (rintro e w2 ⟨q, T, rfl, R1, B1, hT1⟩; have H1 := Lib.hid (And.intro R1 (kq_new (lo := w.heap.size) (HB1.out.trans (B1.mono HB1.out.size)) (fun k hk => Nat.le_trans HB1.out.size (hT1 k hk)))); clear R1 B1 hT1 c10))
  have c11 : Calls Tryz.prog 11 #[.pointer (some ⟨q, 0, none⟩), .int .i64 (mo2 : Int)] w2 _ := first_any (lo := w.heap.size) w2 T q (Shf.M.new (rm : Int)) mo2 H1.out.1 (new_on _) rfl rfl rfl (by have := HK.out.2.2.1.1; show ((0 : Int) + 0 + 50) ≤ (rm : Int); omega) (by have : (Shf.M.new (rm : Int)).done = 0 := rfl; omega) H1.out.2.size
  go_upto_region 5 with (go_at_call 11; (with_reducible refine c11.mono ?_); (rintro e w3 ⟨p, m2, T2, rfl, g2, R2, C2, K2, hp2, r2, s2, d2, n2⟩; have H2 := Lib.hid (lp0 (nb := nb) (H1.out.2.trans K2) R2 C2 g2 (r2.trans rfl) (by have : (Shf.M.new (rm : Int)).done = 0 := rfl; omega) n2); clear g2 R2 C2 K2 hp2 r2 s2 d2 n2 c11))
  go_upto_region 6 with (fail)
  generalize w3.alloc _ = wa at *
  generalize w3.heap.size = bM at *
  go_wp2
  go_loopw [11] (fun i wr => ∃ j : Nat, j ≤ 80 ∧ i = .int .i64 j ∧ Hid (∃ vl m c T, Lp w wr T p q bM m c vl mo2 rm j nb)) (fun i _ => 80 - (intOf i).toNat)
  case atStart => exact ⟨0, by omega, rfl, _, _, _, _, H2.out⟩
  case round =>
    obtain ⟨j, hj, rfl, HL0⟩ := hrel
    clear H2 H1
    obtain ⟨vl, m, c, T, hL⟩ := HL0.out
    obtain ⟨A, cap, hvl, hrd⟩ := hL.fr.oz.rd
    rw [List.length_replicate] at hvl
    subst hvl
    have HL := Lib.hid hL
    clear HL0 hL hrd
    by_cases hlt : j < 80
    · go_upto_region 10 with (first
        | (go_at_call 22; (with_reducible refine (HBy.out _).mono ?_); (rintro e w4 ⟨g, k, rfl, hk, hR, hg, B4⟩; have hT := try_any HL.out hlt kk HK.out.1 w4 B4 g k hk hR hg; rw [HK.out.2.1] at hT; have HT := Lib.hid hT; clear hT hk hR hg B4))
        | (go_at_call 21; (with_reducible refine HT.out.mono ?_); (rintro e w5 ⟨nx, en, rfl, ht⟩; have HS := Lib.hid ht; clear ht)))
      rcases HS.out with ⟨rfl, m', c', T', F, R, C, cg, fi, rm', dn', nm', mo'⟩ | ⟨rfl, m', c', T', F, R, C, cg, fi, rm', dn', nm', mo'⟩
      · have HF := Lib.hid (And.intro F (And.intro R (And.intro C (And.intro cg (And.intro fi (And.intro rm' (And.intro dn' (And.intro nm' mo'))))))))
        obtain ⟨⟨q0, q1, q2⟩, f0⟩ := row3m F.box
        have eb := F.sz
        have B6 : Below w5.heap.size w5 (w5.alloc (.cells #[.int .u8 (n : Int)] 5)) := (Below.refl _ _).alloc (Nat.le_refl _) _
        have hrow : Row (w5.alloc (.cells #[.int .u8 (n : Int)] 5)) w5.heap.size [nb] := by
          have h := heap_alloc_new w5 (.cells #[.int .u8 (n : Int)] 5)
          rw [← HB8.out] at h ⊢
          exact h
        have F6 := F.below B6
        have R6 := R.below B6
        have C6 := C.keep (kp_below B6 T')
        obtain ⟨v8, w8, hrun, OZ8, ht8, hb8, hs8, hlow⟩ := appz_run F6.oz nb w5.heap.size hrow (by rw [List.length_replicate]; omega)
        obtain ⟨A8, c8, hv8, -⟩ := OZ8.rd
        obtain ⟨n8, hn8⟩ : ∃ n8, n8 = (List.replicate j nb ++ [nb]).length := ⟨_, rfl⟩
        rw [← hn8] at hv8
        subst hv8
        have hbox8 : w8.heap[bM]? = some (.cells #[.slice A j cap, .int .i64 0, .int .i64 0] 32 (0, 0)) := (ht8.kept bM F6.sz (notTy F6.box (by decide))).trans F6.box
        obtain ⟨⟨g0, g1, g2⟩, gf⟩ := row3m hbox8
        have eb8 : bM < w8.heap.size := (Array.getElem?_eq_some_iff.1 hbox8).1
        have HNX := Lib.hid (Lp.next F6 R6 C6 cg fi rm' dn' nm' mo' OZ8 ht8 hb8 hs8 hlow)
        clear F R C cg fi rm' dn' nm' mo' HF HS HL hrow F6 R6 C6 OZ8 ht8 hb8 hs8 hlow hbox8 hn8 B6
        have HRUN := Lib.hid hrun
        clear hrun
        go_wp2_with (at_builtin; (refine Lib.wpList_append_run _ rfl (.tmp 96) (.tmp 98) 30 30 rfl _ _ rfl rfl _ _ HRUN.out ?_))
        go_roundw
        case rel => exact ⟨j + 1, by omega, by go_num, _, _, _, _, HNX.out⟩
        case measure => simp [intOf]; omega
      · have cn : CN c' := ⟨by have h1 := fi.nv; have h2 := fi.hd.1; rw [List.length_replicate] at h1; omega, by have h2 := fi.hd.2.1; omega⟩
        have hsm := fi.small cg
        have HF := Lib.hid (And.intro F (And.intro R (And.intro C (And.intro cg (And.intro fi (And.intro rm' (And.intro dn' (And.intro nm' (And.intro mo' (And.intro cn hsm))))))))))
        clear F R C cg fi rm' dn' nm' mo' cn hsm HS HL
        have c14 : Calls Tryz.prog 14 #[.pointer (some ⟨p, 0, none⟩)] w5 fun e w' => e = .returned (.bool true) ∧ w5 = w' := full_c w5 T' p q _ HF.out.2.2.1
        have c21 := append_closed w5 T' p q _ HF.out.2.2.1 rfl 107 none 0 0 (by decide)
        have c21 : Calls Tryz.prog 21 #[.pointer (some ⟨p, 0, none⟩), .int .u8 107, .slice none 0 0] w5 fun e w' => e = .returned (.tuple #[.int .u64 0, .int .i64 10]) ∧ w5 = w' := c21
        have c23 := sync_any w5 T' p q m' _ HF.out.2.1 HF.out.2.2.1 ⟨HF.out.2.2.2.2.2.2.2.2.2.2.1, HF.out.2.2.2.2.2.2.2.2.2.2.2, HF.out.2.2.2.2.2.2.2.2.2.2.3, HF.out.2.2.2.2.2.2.2.2.2.2.4⟩ (fun d hd => by have := HF.out.2.2.2.1.no_lt HF.out.2.2.2.2.2.2.2.2.2.1 hd; omega) (by have := HF.out.2.2.2.2.2.2.1; omega)
        obtain ⟨y1, y2, y3, y4, y5⟩ := HF.out.2.2.2.1.sync
        have y6 : (syM {c' with full := true} m') = syM c' m' := rfl
        rw [y6, y1] at c23
        have c23 : Calls Tryz.prog 23 #[.pointer (some ⟨p, 0, none⟩)] w5 fun e w6 => e = .returned (.int .i64 0) ∧ ∃ T6, Fr w w6 T6 bM (.slice A j cap) (List.replicate j nb) ∧ Rep w6 T6 q (syM c' m').2 ∧ Calls Tryz.prog 13 #[.pointer (some ⟨p, 0, none⟩), .agg #[.slice A j cap, .int .i64 0, .int .i64 0]] w6 fun e w' => e = .returned (.bool true) ∧ Below w6.heap.size w6 w' := by
          refine c23.mono ?_
          rintro e w6 ⟨T6, rfl, R6, X6⟩
          have K6 : Kq w.heap.size w5 T' w6 T6 := kq_kp (kp_ext X6)
          have C6 := HF.out.2.2.1.keep (kp_ext X6)
          have C6 : CAt w.heap.size w6 T6 p q {c' with full := true, most := mo2} := by
            have e := HF.out.2.2.2.2.2.2.2.2.1
            rw [← e]
            exact C6
          have F6 := HF.out.1.kq K6
          exact ⟨rfl, T6, F6, R6, told_one true F6 R6 C6 y2 HF.out.2.2.2.2.1 hj⟩
        have ysm : (syM c' m').2.done ≤ 500000 := by have h1 := (syM_small c' m').1; have h2 := HF.out.2.2.2.2.2.2.1; omega
        have ynm : Nms (syM c' m').2 4000 := by
          have h2 := nms_mono HF.out.2.2.2.2.2.2.2.1 (show 3 + 2 * (j + 1) ≤ 4000 by omega)
          unfold syM
          split
          · exact h2
          · exact nms_sync h2 _
        have HC := Lib.hid (And.intro c14 (And.intro c21 (And.intro c23 (And.intro y2 (And.intro y4 (And.intro ysm ynm))))))
        clear c14 c21 c23 y1 y2 y3 y4 y5 y6 ysm ynm
        obtain ⟨⟨q0, q1, q2⟩, -⟩ := row3m HF.out.1.box
        go_upto_region 14 with (first
          | (go_at_call 14; (with_reducible refine HC.out.1.mono ?_); (rintro e w6 ⟨rfl, e6⟩; subst e6))
          | (go_at_call 21; (with_reducible refine HC.out.2.1.mono ?_); (rintro e w6 ⟨rfl, e6⟩; subst e6)))
        go_upto_region 16 with (first
          | (go_at_call 23; (with_reducible refine HC.out.2.2.1.mono ?_); (rintro e w6 ⟨rfl, T6, F6, R6, h13⟩; have H6 := Lib.hid (And.intro F6 (And.intro R6 h13)); obtain ⟨⟨g0, g1, g2⟩, -⟩ := row3m F6.box; clear F6 R6 h13 q0 q1 q2))
          | (go_at_call 13; ((with_reducible refine H6.out.2.2.mono ?_); (rintro e w7 ⟨rfl, B7⟩; have H7 := Lib.hid (And.intro (H6.out.1.below B7) (H6.out.2.1.below B7)); clear B7 g0 g1 g2))))
        have c11 : Calls Tryz.prog 11 #[.pointer (some ⟨q, 0, none⟩), .int .i64 (mo2 : Int)] w7 _ := open_cg (lo := w.heap.size) w7 T6 q (syM c' m').2 c' mo2 H7.out.2 HC.out.2.2.2.1 HF.out.2.2.2.2.2.2.2.2.2.1 ⟨by have h := HF.out.2.2.2.2.1.hd.2.2.1; omega, fun d hd => by have h1 := HF.out.2.2.2.2.1.sz d hd; rw [List.length_replicate] at h1; omega, by rw [HF.out.2.2.2.2.1.hd.2.2.2.2]; decide, HC.out.2.2.2.2.2.1, HC.out.2.2.2.2.2.2, by rw [HC.out.2.2.2.2.1, HF.out.2.2.2.2.2.1]; omega⟩ H7.out.1.bl.size
        go_upto_region 17 with (go_at_call 11; (with_reducible refine c11.mono ?_); (rintro e w8 ⟨p8, T8, rfl, R8, C8, K8, hp8⟩; have F8 := H7.out.1.kq K8; have h13 := told_one false F8 R8 (show CAt w.heap.size w8 T8 p8 q {c' with full := false, most := mo2} from (by have e := HF.out.2.2.2.2.1.hd.2.2.2.1; rw [← e]; exact C8)) HC.out.2.2.2.1 HF.out.2.2.2.2.1 hj; have H8 := Lib.hid (And.intro F8 (And.intro R8 (And.intro C8 h13))); obtain ⟨⟨g0, g1, g2⟩, -⟩ := row3m F8.box; clear R8 C8 K8 hp8 F8 h13 c11))
        go_wp2_with (first
          | (go_at_call 13; ((with_reducible refine H8.out.2.2.2.mono ?_); (rintro e w9 ⟨rfl, B9⟩; have c14 : Calls Tryz.prog 14 #[.pointer (some ⟨p8, 0, none⟩)] w9 fun e w' => e = .returned (.bool c'.full) ∧ w9 = w' := full_c w9 T8 p8 q {c' with most := mo2} (H8.out.2.2.1.keep (kp_below B9 T8)); rw [HF.out.2.2.2.2.1.hd.2.2.2.1] at c14; have H9 := Lib.hid (And.intro (H8.out.1.below B9) c14); clear B9 c14)))
          | (go_at_call 14; ((with_reducible refine H9.out.2.mono ?_); (rintro e w10 ⟨rfl, e10⟩; subst e10))))
        go_ret
        exact ⟨rfl, H9.out.1.bl⟩
    · obtain rfl : j = 80 := by omega
      obtain ⟨⟨q0, q1, q2⟩, -⟩ := row3m HL.out.fr.box
      have h13 := told_one c.full HL.out.fr HL.out.R (show CAt w.heap.size wr T p q {c with full := c.full, most := mo2} from (by have e := HL.out.mo; rw [← e]; exact HL.out.C)) HL.out.cg HL.out.fi hj
      have H13 := Lib.hid h13
      clear h13
      go_wp2_with (go_at_call 13; (with_reducible refine H13.out.mono ?_); (rintro e w9 ⟨rfl, B9⟩; have H9 := Lib.hid (HL.out.fr.below B9); clear B9))
      go_ret
      exact ⟨rfl, H9.out.bl⟩
end Go.Proofs.YtdbhgkbmbbjpdaaGreatDoor.Chr
