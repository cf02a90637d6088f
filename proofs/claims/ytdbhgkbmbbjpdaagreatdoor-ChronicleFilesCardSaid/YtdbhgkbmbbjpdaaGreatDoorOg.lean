/- The calls where nothing goes wrong; the document's example. -/
import Derived.Test.YtdbhgkbmbbjpdaaGreatDoorOf
import Derived.Lib.SlBytesConst
import Derived.Lib.SmallJoins
namespace Go.Proofs.YtdbhgkbmbbjpdaaGreatDoor.Chr
variable {lo : Nat}
open Go.ChangeShapes Go.WideShapes Go.ChangeAt Go.RowKit
open Shf (S str)
open Coin (Rd Row Own sz coin got Pur takeV endV CoinSaid)
open Frm (pack err size kind cnt body noItem itemV OneSaid)
set_option maxRecDepth 8000
set_option linter.unusedVariables false
open Shf (Tag Ext Rep M RdN get Fine)
theorem first_any (w : World) (T : Nat → Tag) (q : Nat) (m : M) (mo : Nat) (R : Rep w T q m) (h : On m) (hnow : m.now = []) (hmv : m.moves = []) (hs : m.safe = []) (hr : (m.named + m.gone + 50 : Int) ≤ m.room) (hd : m.done ≤ 500000) (hlo : lo ≤ w.heap.size) :
    Calls Tryz.prog 11 #[.pointer (some ⟨q, 0, none⟩), .int .i64 (mo : Int)] w fun e w' => ∃ p m' T', e = .returned (.tuple #[.pointer (some ⟨p, 0, none⟩), .int .i64 0]) ∧ CG ⟨mo, 1, 0, 0, [], [], false⟩ m' ∧ Rep w' T' q m' ∧ CAt lo w' T' p q ⟨mo, 1, 0, 0, [], [], false⟩ ∧ Kq lo w T w' T' ∧ w.heap.size ≤ p ∧ m'.room = m.room ∧ m'.named + m'.gone ≤ m.named + 50 ∧ m'.done ≤ m.done + 5 ∧ Nms m' 3 := by
  have hno : ∀ s, fileOf m s = none := fun s => by unfold fileOf; rw [hnow]; rfl
  have I : TvI ⟨mo, 1, 0, 0, [], [], false⟩ m := ⟨⟨by show 1 < 1000000000; decide, by show 0 < 1000000000; decide, Nat.zero_le _, fun d hd => (by cases hd)⟩, by show 1 ≤ 99; decide, by show 0 + 1 + (99 - 1) * 900000 ≤ 500000000; decide, by show 0 + (99 - 1) ≤ 500; decide, by show m.done + (99 - 1) ≤ 700000; omega, fun s => by rw [h.readP, hno]; exact Nat.zero_le _, by rw [h.readE, hno]; show (2 : Nat) ≠ 0; decide, fun d hd => (by cases hd)⟩
  refine (open_new w T q m mo R (by rw [h.readE, hno]) I ⟨by rw [hnow]; exact Nat.zero_le _, fun p hp => by rw [hnow] at hp; cases hp⟩ (by omega) (by omega)).mono ?_
  rintro e w' ⟨p, en, m', c', T', rfl, ho, R', C', K', hps⟩
  obtain ⟨rfl, rfl, cg, r1, r2, r3, r4⟩ := open_fresh h hnow hmv hs hr ho R'.2.goodNow
  exact ⟨p, m', T', rfl, cg, R', C'.mono hlo, K'.mono hlo, hps, r1, r2, r3, r4⟩
def More (c : CD) (k : UInt8) (p : S) (c' : CD) : Prop := (∃ l d, c.vols = l ++ [d] ∧ d.size < c.most ∧ c' = atlC c l d k p 0) ∨ ((∀ l d, c.vols = l ++ [d] → ¬ d.size < c.most) ∧ c' = atlC {c with vols := c.vols ++ [newV c]} c.vols (newV c) k p 0)
theorem append_cg (w : World) (T : Nat → Tag) (p q : Nat) (m : M) (c : CD) (R : Rep w T q m) (C : CAt lo w T p q c) (h : CG c m) (N1 : c.hF + c.vols.length < 98) (hB : c.hB < 99) (hs : c.Small) (hnx : c.next < 1000000000) (hd : m.done < 600000) (hms : Nms m 8000) (k : UInt8) (A : Option Addr) (n cp : Nat) (bs : S) (hn : n = bs.length) (hP : AAt w T A cp bs) (hbl : bs.length ≤ 1048576) (hr : (m.named + m.gone + 50 + (pack k bs).length : Int) ≤ m.room) :
    Calls Tryz.prog 21 #[.pointer (some ⟨p, 0, none⟩), .int .u8 (k.toNat : Int), .slice A n cp] w fun e w' => ∃ m' c' T', e = .returned (.tuple #[.int .u64 (c.next : Int), .int .i64 0]) ∧ CG c' m' ∧ More c k bs c' ∧ Rep w' T' q m' ∧ CAt lo w' T' p q c' ∧ Kq lo w T w' T' ∧ m'.room = m.room ∧ m'.named + m'.gone ≤ m.named + m.gone + 50 + (pack k bs).length ∧ m'.done ≤ m.done + 7 ∧ ∀ K, Nms m K → Nms m' (K + 2) := by
  have N : CN c := ⟨by omega, hB⟩
  have hno : c.nextNo < 100 := by rw [nextNo_at h]; omega
  refine (append_any w T p q m c R C hs (by omega) (fun d hd => by have := h.no_lt N hd; omega) (by omega) (nms_mono hms (by decide)) (by omega) hno hnx (by omega) h.nf k A n cp bs hn hP hbl).mono ?_
  rintro e w' ⟨no, en, m', c', T', rfl, ⟨c1, ha, h1, h2⟩, R', C', K'⟩
  obtain ⟨rfl, g1, g2, g3, g4⟩ := h.add N N1 hnx k bs hbl hr ha R'.2.goodNow
  obtain ⟨rfl, rfl⟩ := h1 rfl
  exact ⟨m', _, T', rfl, g1, g4, R', C', K', g2, g3, (adm_ok ha hno (K := 8000) hms).1, fun K hk => (adm_ok ha hno hk).2⟩
theorem sync_cg (w : World) (T : Nat → Tag) (p q : Nat) (m : M) (c : CD) (R : Rep w T q m) (C : CAt lo w T p q c) (h : CG c m) (N : CN c) (hs : c.Small) (hd : m.done < 600000) :
    Calls Tryz.prog 23 #[.pointer (some ⟨p, 0, none⟩)] w fun e w' => ∃ m' T', e = .returned (.int .i64 0) ∧ CG c m' ∧ AllSync c m' ∧ Rep w' T' q m' ∧ CAt lo w' T' p q c ∧ Kq lo w T w' T' ∧ m'.room = m.room ∧ m'.named + m'.gone = m.named + m.gone ∧ m'.done ≤ m.done + 1 ∧ ∀ K, Nms m K → Nms m' K := by
  refine (sync_any w T p q m c R C hs (fun d hd => by have := h.no_lt N hd; omega) (by omega)).mono ?_
  rintro e w' ⟨T', rfl, R', X'⟩
  obtain ⟨s1, s2, s3, s4, s5⟩ := h.sync
  refine ⟨(syM c m).2, T', by rw [s1]; rfl, s2, s3, R', C.keep (kp_ext X'), kq_kp (kp_ext X'), s4, s5, (syM_small c m).1, fun K hk => ?_⟩
  unfold syM
  split
  · exact hk
  · exact nms_sync hk _
theorem fall_cg (w : World) (T : Nat → Tag) (q : Nat) (m : M) (c : CD) (R : Rep w T q m) (h : CG c m) (hs : AllSync c m) (hd : m.done < 600000) (names bytes : Int) :
    Calls Tryz.prog 18 #[.pointer (some ⟨q, 0, none⟩), .int .i64 names, .int .i64 bytes] w fun e w' => ∃ m' T', e = .returned (.tuple #[]) ∧ CG c m' ∧ AllSync c m' ∧ Rep w' T' q m' ∧ Kq lo w T w' T' ∧ m'.room = m.room ∧ m'.named + m'.gone ≤ m.named + m.gone ∧ m'.done = m.done ∧ ∀ K, Nms m K → Nms m' K := by
  refine (Shf.fall_rep w T q m names bytes R (by omega)).mono ?_
  rintro e w' ⟨rfl, T', R', X'⟩
  obtain ⟨g1, g2, g3, g4⟩ := h.fall R.2 hs names bytes R'.2
  refine ⟨_, T', rfl, g1, g4, R', kq_kp (kp_ext X'), g2, g3, rfl, fun K hk => ?_⟩
  have hnow : (m.fall names bytes).now = m.now := by
    show Shf.ages m.safe (m.moves.take _) = _
    rw [h.mv, List.take_nil]
    have := h.ages
    rw [h.mv] at this
    exact this.symm
  show NmsL _ _
  rw [hnow]
  exact hk
theorem new_on (room : Int) : On (Shf.M.new room) := ⟨rfl, rfl⟩
def d1 : VolD := ⟨1, 1, [⟨120, [97, 98, 99], (titleB 1 1).length, (titleB 1 1).length + (pack 120 [97, 98, 99]).length⟩], (titleB 1 1).length + (pack 120 [97, 98, 99]).length⟩
def cd1 : CD := ⟨100, 1, 0, 0, [], [d1], false⟩
theorem more1 {c' : CD} (h : More ⟨100, 1, 0, 0, [], [], false⟩ 120 [97, 98, 99] c') : c' = cd1 := by
  rcases h with ⟨l, d, e, _⟩ | ⟨_, rfl⟩
  · have e : ([] : List VolD) = l ++ [d] := e
    simp at e
  · rfl
theorem d1_sz : d1.size ≤ 1000 := by decide +kernel
theorem pk1 : (pack 120 [97, 98, 99]).length ≤ 20 := by decide +kernel
theorem cd1_n : CN cd1 := ⟨by decide, by decide⟩
theorem cd1_s : cd1.Small := ⟨by decide, by decide, by decide, fun d hd => by rw [List.mem_singleton.1 hd]; have := d1_sz; exact ⟨by decide, by decide, by decide, by omega⟩⟩
theorem recJ_le (hU : Nat) (d : VolD) : ∀ j, (recJ hU d j).length ≤ d.its.length := fun j => by
  have : ∀ j, (recJ hU d j).length ≤ min j d.its.length := fun j => by
    induction j with
    | zero => exact Nat.zero_le _
    | succ j ih =>
      unfold recJ
      rw [List.length_append]
      cases hx : d.its[j]? with
      | none => simp only [List.length_nil]; omega
      | some x =>
        have := (List.getElem?_eq_some_iff.1 hx).1
        cases hdd : decide (hU < d.first + j)
        · show (recJ hU d j).length + 0 ≤ _; omega
        · show (recJ hU d j).length + 1 ≤ _; omega
  exact Nat.le_trans (this j) (Nat.min_le_right _ _)
theorem below_kq {w w' : World} {T' : Nat → Tag} (K : Kq w.heap.size w (fun _ => .none) w' T') : Below w.heap.size w w' := ⟨K.os, K.tape, K.output, K.size, fun b hb => K.low b hb rfl hb⟩
theorem kq_new {w w1 : World} {T : Nat → Tag} (B : Below w.heap.size w w1) (hT : ∀ k, T k ≠ .none → w.heap.size ≤ k) : Kq lo w (fun _ => .none) w1 T :=
  kq_kp ⟨B.size, fun b hb _ => ⟨B.block b hb, by
    cases h : T b <;> first | rfl | (have := hT b (by rw [h]; intro e; cases e); omega)⟩, B.os, B.tape, B.output⟩
set_option maxHeartbeats 4000000 in
theorem awake_any (w : World) : Calls Tryz.prog 9 #[] w fun e w' => e = .returned (.bool true) ∧ Below w.heap.size w w' := by
  have c10 := Shf.new_rep w 1000 (by decide)
  have kc := fun (w : World) (C : Array Value) (n c : Nat) => Lib.run_convert_bytes_const (P := Tryz.prog) w 30 5 C n c Tryz.underlying30 Tryz.underlying5
  go_enter Tryz.func9, Tryz.ntmps9
  go_upto_region 2 with (go_at_call 10; (with_reducible refine c10.mono ?_); rintro e w1 ⟨q, T, rfl, R1, B1, hT1⟩; have H1 := Lib.hid (And.intro R1 (kq_new (lo := w.heap.size) B1 hT1)); clear R1 B1 hT1 c10)
  have c11 : Calls Tryz.prog 11 #[.pointer (some ⟨q, 0, none⟩), .int .i64 100] w1 _ := first_any (lo := w.heap.size) w1 T q (Shf.M.new 1000) 100 H1.out.1 (new_on 1000) rfl rfl rfl (by decide) (by decide) H1.out.2.size
  go_upto_region 5 with (go_at_call 11; (with_reducible refine c11.mono ?_); rintro e w2 ⟨p, m2, T2, rfl, g2, R2, C2, K2, hp2, r2, s2, d2, n2⟩; have H2 := Lib.hid (And.intro g2 (And.intro R2 (And.intro C2 (And.intro (H1.out.2.trans K2) (And.intro r2 (And.intro s2 (And.intro d2 n2))))))); clear g2 R2 C2 K2 hp2 r2 s2 d2 n2 c11)
  have N3 := heap_alloc_new w2 (.cells #[.int .u8 97, .int .u8 98, .int .u8 99] 5 (3, 4))
  have B3 : Below w2.heap.size w2 (w2.alloc (.cells #[.int .u8 97, .int .u8 98, .int .u8 99] 5 (3, 4))) := (Below.refl _ _).alloc (Nat.le_refl _) _
  have P3 : AAt (w2.alloc (.cells #[.int .u8 97, .int .u8 98, .int .u8 99] 5 (3, 4))) T2 (some ⟨w2.heap.size, 0, none⟩) 3 [97, 98, 99] := by
    refine ⟨fun h => (by cases h), ⟨fun _ => ⟨_, rfl, fun j hj => ?_⟩, fun _ ad e => ?_⟩, fun _ ad e => ?_⟩
    · rw [Shf.zero_add']
      show World.cell? _ ⟨w2.heap.size, j, none⟩ = _
      unfold World.cell?
      rw [N3]
      match j, hj with
      | 0, _ => rfl
      | 1, _ => rfl
      | 2, _ => rfl
    · injection e with e
      rw [← e]
      exact ⟨rep_old H2.out.2.1 (Nat.le_refl _), (Array.getElem?_eq_some_iff.1 N3).1⟩
    · injection e with e
      rw [← e]
      have k : ∀ t, NotTy (w2.alloc (.cells #[.int .u8 97, .int .u8 98, .int .u8 99] 5 (3, 4))) w2.heap.size t := fun t cur h => by
        rw [N3] at h
        injection h with h
        injection h with _ _ h
        cases h
      exact ⟨k 82, k 60, k 75⟩
  have r2 : m2.room = 1000 := H2.out.2.2.2.2.1
  have s2 : m2.named + m2.gone ≤ 0 + 50 := H2.out.2.2.2.2.2.1
  have d2 : m2.done ≤ 0 + 5 := H2.out.2.2.2.2.2.2.1
  have c21 : Calls Tryz.prog 21 #[.pointer (some ⟨p, 0, none⟩), .int .u8 120, .slice (some ⟨w2.heap.size, 0, none⟩) 3 3] (w2.alloc (.cells #[.int .u8 97, .int .u8 98, .int .u8 99] 5 (3, 4))) _ := append_cg _ T2 p q m2 ⟨100, 1, 0, 0, [], [], false⟩ (H2.out.2.1.below B3) (H2.out.2.2.1.keep (kp_below B3 T2)) H2.out.1 (by decide) (by decide) ⟨by decide, by decide, by decide, fun d hd => (by cases hd)⟩ (by decide) (by omega) (nms_mono H2.out.2.2.2.2.2.2.2 (by decide)) 120 (some ⟨w2.heap.size, 0, none⟩) 3 3 [97, 98, 99] rfl P3 (by decide) (by have := pk1; rw [r2]; omega)
  have HK2 := Lib.hid (H2.out.2.2.2.1.trans (kq_kp (kp_below B3 T2)))
  have HS2 := Lib.hid (And.intro r2 (And.intro s2 d2))
  clear N3 B3 P3 r2 s2 d2
  go_upto_region 6 with (go_at_call 21; (with_reducible refine c21.mono ?_); rintro e w4 ⟨m4, c4, T4, rfl, g4, mo4, R4, C4, K4, r4, s4, d4, n4⟩; obtain rfl := more1 mo4; have H4 := Lib.hid (And.intro g4 (And.intro R4 (And.intro C4 (And.intro (HK2.out.trans K4) (And.intro (r4.trans HS2.out.1) (And.intro s4 (And.intro d4 n4))))))); clear g4 mo4 R4 C4 K4 r4 s4 d4 n4 c21; rw [show (((⟨100, 1, 0, 0, [], [], false⟩ : CD).next : Nat) : Int) = 1 from rfl])
  have d4 : m4.done ≤ 12 := by have h1 := H4.out.2.2.2.2.2.2.1; have h2 := HS2.out.2.2; omega
  have n4 : Nms m4 5 := H4.out.2.2.2.2.2.2.2 3 H2.out.2.2.2.2.2.2.2
  have c23 := sync_cg w4 T4 p q m4 cd1 H4.out.2.1 H4.out.2.2.1 H4.out.1 cd1_n cd1_s (by omega)
  have HN4 := Lib.hid (And.intro d4 n4)
  clear d4 n4
  go_upto_region 7 with (go_at_call 23; (with_reducible refine c23.mono ?_); rintro e w5 ⟨m5, T5, rfl, g5, a5, R5, C5, K5, r5, s5, d5, n5⟩; have H5 := Lib.hid (And.intro g5 (And.intro a5 (And.intro R5 (And.intro (H4.out.2.2.2.1.trans K5) (And.intro (r5.trans H4.out.2.2.2.2.1) (And.intro d5 (n5 5 HN4.out.2))))))); clear g5 a5 R5 C5 K5 r5 s5 d5 n5 c23)
  have d5 : m5.done ≤ 13 := by have h1 := H5.out.2.2.2.2.2.1; have h2 := HN4.out.1; omega
  have c18 := fall_cg (lo := w.heap.size) w5 T5 q m5 cd1 H5.out.2.2.1 H5.out.1 H5.out.2.1 (by omega) 0 0
  have HD5 := Lib.hid d5
  clear d5
  go_upto_region 8 with (go_at_call 18; (with_reducible refine c18.mono ?_); rintro e w6 ⟨m6, T6, rfl, g6, a6, R6, K6, r6, s6, d6, n6⟩; have H6 := Lib.hid (And.intro g6 (And.intro R6 (And.intro (H5.out.2.2.2.1.trans K6) (And.intro (r6.trans H5.out.2.2.2.2.1) (And.intro d6 (n6 5 H5.out.2.2.2.2.2.2)))))); clear g6 a6 R6 K6 r6 s6 d6 n6 c18)
  have d6 : m6.done ≤ 13 := by have h1 := H6.out.2.2.2.2.1; have h2 := HD5.out; omega
  have c11 : Calls Tryz.prog 11 #[.pointer (some ⟨q, 0, none⟩), .int .i64 100] w6 _ := open_cg (lo := w.heap.size) w6 T6 q m6 cd1 100 H6.out.2.1 H6.out.1 cd1_n ⟨by decide, fun d hd => by rw [List.mem_singleton.1 hd]; have := d1_sz; omega, by decide, by omega, nms_mono H6.out.2.2.2.2.2 (by decide), by rw [H6.out.2.2.2.1]; decide⟩ H6.out.2.2.1.size
  clear d6
  go_upto_region 9 with (go_at_call 11; (with_reducible refine c11.mono ?_); rintro e w7 ⟨p7, T7, rfl, R7, C7, K7, hp7⟩; have H7 := Lib.hid (And.intro R7 (And.intro (H6.out.2.2.1.trans K7) C7)); clear R7 C7 K7 hp7 c11)
  have c37 := recs_any w7 T7 p7 q cd1 H7.out.2.2 (fun b hb => rep_old H7.out.1 hb) cd1_s (by decide) (fun d hd => by rw [List.mem_singleton.1 hd]; decide) (fun d hd x hx => by rw [List.mem_singleton.1 hd] at hx; rw [List.mem_singleton.1 hx]; decide) (fun k j d hd => by
    match k, hd with
    | 0, hd =>
      injection hd with hd
      rw [← hd]
      have h1 := recJ_le 0 d1 j
      show ([] ++ recJ 0 d1 j).length ≤ _
      rw [List.nil_append]
      exact Nat.le_trans h1 (by decide)
    | k + 1, hd => exact absurd hd (by show ¬ ([] : List VolD)[k]? = some d; simp))
  rw [show (((cd1.hU + 1 : Nat)) : Int) = 1 from rfl] at c37
  go_upto_region 10 with (go_at_call 37; (with_reducible refine c37.mono ?_); rintro e w8 ⟨v8, gl8, rfl, L8, F8, B8⟩; have H8 := Lib.hid (And.intro L8 B8); clear L8 F8 B8 c37)
  obtain ⟨g, off, cap, A9, c9, rfl, -, -, IA⟩ := H8.out.1.at 0 (by decide)
  have y1 : w8.cell? ⟨g, off + 1, none⟩ = some (.slice A9 3 c9) := by have e := IA.k1; rw [Nat.zero_mul, Nat.add_zero] at e; exact e
  have hcv : (convert 30 9 (.slice A9 3 c9)).run Tryz.prog w8 = .ok (.string ⟨#[97, 98, 99]⟩) w8 := Coin.conv_any (l := [97, 98, 99]) IA.pa.rd 3 c9 rfl
  have hl1 : cd1.recs.length = 1 := rfl
  rw [hl1]
  clear IA
  go_wp2
  go_ret
  exact ⟨rfl, below_kq (H7.out.2.1.trans (kq_kp (kp_below H8.out.2 T7)))⟩
end Go.Proofs.YtdbhgkbmbbjpdaaGreatDoor.Chr
