/- Append. -/
import Derived.Test.YtdbhgkbmbbjpdaaGreatDoorNt
namespace Go.Proofs.YtdbhgkbmbbjpdaaGreatDoor.Chr
variable {lo : Nat}
open Go.ChangeShapes Go.WideShapes Go.ChangeAt Go.RowKit
open Shf (S str)
open Coin (Rd Row Own sz coin got Pur takeV endV CoinSaid)
open Frm (pack err size kind cnt body noItem itemV OneSaid)
set_option maxRecDepth 8000
set_option linter.unusedVariables false
open Shf (Tag Ext Rep M RdN)
def ApM (c : CD) (m : M) (k : UInt8) (bs : S) (no en : Nat) (m' : M) (c' : CD) : Prop :=
  ∃ c1, AdM c m k bs en m' c1 ∧ (en = 0 → no = c.next ∧ c' = c1) ∧ (en ≠ 0 → no = 0 ∧ c' = {c1 with full := decide (en = 3)})
theorem append_nil (w : World) (k : UInt8) (A : Option Addr) (n c : Nat) : Calls Tryz.prog 21 #[.pointer none, .int .u8 (k.toNat : Int), .slice A n c] w fun e w' => e = .returned (.tuple #[.int .u64 0, .int .i64 2]) ∧ w = w' := by
  go_enter Tryz.func21, Tryz.ntmps21
  go_wp2
  go_ret2
  exact ⟨rfl, rfl⟩
set_option maxHeartbeats 2000000 in
theorem append_any (w : World) (T : Nat → Tag) (p q : Nat) (m : M) (c : CD) (R : Rep w T q m) (h : CAt lo w T p q c) (hs : c.Small) (hB : c.hB < 100) (hv : ∀ d ∈ c.vols, d.no < 100) (hd : m.done < 690000) (hms : Nms m 8990) (hroom : -1000000000000 ≤ m.room) (hno : c.nextNo < 100) (hnx : c.next < 1000000000) (hnv : c.vols.length < 1000000) (hf : c.full = false) (k : UInt8) (A : Option Addr) (n cp : Nat) (bs : S) (hn : n = bs.length) (hP : AAt w T A cp bs) (hbl : bs.length ≤ 1048576) :
    Calls Tryz.prog 21 #[.pointer (some ⟨p, 0, none⟩), .int .u8 (k.toNat : Int), .slice A n cp] w fun e w' => ∃ (no en : Nat) (m' : M) (c' : CD) (T' : Nat → Tag), e = .returned (.tuple #[.int .u64 (no : Int), .int .i64 (en : Int)]) ∧ ApM c m k bs no en m' c' ∧ Rep w' T' q m' ∧ CAt lo w' T' p q c' ∧ Kq lo w T w' T' := by
  have c51 : ∀ y, Below w.heap.size w y → Calls Tryz.prog 51 #[.pointer (some ⟨p, 0, none⟩), .int .u8 (k.toNat : Int), .slice A n cp] y fun e w' => ∃ en m' c' T', e = .returned (.int .i64 ((en : Nat) : Int)) ∧ AdM c m k bs en m' c' ∧ Rep w' T' q m' ∧ CAt lo w' T' p q c' ∧ Kq lo w T w' T' := fun y hy => by
    refine (add_any y T p q m c (R.below hy) (h.keep (kp_below hy T)) hs hB hv hd hms hroom hno hnx hnv k A n cp bs hn (hP.below hy) (by omega)).mono ?_
    rintro e w' ⟨en, m', c', T', h1, h2, h3, h4, h5⟩
    exact ⟨en, m', c', T', h1, h2, h3, h4, (kq_kp (kp_below hy T)).trans h5⟩
  have c19 := next_any w T p q c h hs
  have HC := Lib.hid c51
  obtain ⟨nx, hnx9⟩ : ∃ n, n = c.next := ⟨_, rfl⟩
  rw [← hnx9] at c19
  have HNX := Lib.hid hnx9
  obtain ⟨bA, bc, vv, gv, h⟩ := h
  have hr := h.row
  unfold cC at hr
  rw [hf] at hr
  obtain ⟨p0, p1, p2, p3, p4, p5, p6, p7, -⟩ := row8 hr
  have k1 : ¬ (1048576 : Int) < n := by omega
  clear R h hs hB hv hd hms hroom hno hnx hnv hf hn hP hbl c51 hnx9 hr p0 p1 p2 p3 p4 p5 p6
  go_enter Tryz.func21, Tryz.ntmps21
  go_upto_region 9 with (first
    | (go_at_call 19; refine c19.mono ?_; rintro e w1 ⟨rfl, B1⟩; have HB1 := Lib.hid B1; clear B1 c19)
    | (go_at_call 51; refine (HC.out w1 HB1.out).mono ?_; rintro e w2 ⟨en, m2, c2, T2, rfl, hx⟩; have H2 := Lib.hid hx; clear hx))
  by_cases h0 : en = 0
  · have h0' : (en : Int) = 0 := by omega
    have HE := Lib.hid h0
    clear h0
    go_wp2
    go_ret2
    refine ⟨nx, 0, m2, c2, T2, rfl, ⟨c2, by rw [← HE.out]; exact H2.out.1, fun _ => ⟨HNX.out, rfl⟩, fun h => absurd rfl h⟩, H2.out.2⟩
  · have h0' : ¬ (en : Int) = 0 := by omega
    have HE := Lib.hid h0
    clear h0
    obtain ⟨bA2, bc2, vv2, gv2, C2⟩ := H2.out.2.2.1
    have r2 := C2.row
    have HC2 := Lib.hid C2
    unfold cC at r2
    obtain ⟨q0, q1, q2, q3, q4, q5, q6, q7, fz⟩ := row8 r2
    clear C2 r2 q0 q1 q2 q3 q4 q5 q6 p7
    obtain ⟨full9, hf9⟩ : ∃ b : Bool, b = c2.full := ⟨_, rfl⟩
    rw [← hf9] at q7
    clear hf9
    go_wp2
    go_ret2
    have e3 : ((en : Int) == 3) = decide (en = 3) := by
      by_cases h : en = 3
      · rw [h]; rfl
      · rw [decide_eq_false h]
        have : ¬ (en : Int) = 3 := by omega
        simp [this]
    have G := Shf.grown_set w2 p 7 (.bool ((en : Int) == 3))
    have C9 := HC2.out.set 7 (.bool ((en : Int) == 3)) {c2 with full := decide (en = 3)} bA2 bc2 vv2 gv2 (by rw [e3]; rfl) HC2.out.ba HC2.out.vs
    refine ⟨0, en, m2, {c2 with full := decide (en = 3)}, T2, rfl, ⟨c2, H2.out.1, fun h => absurd h HE.out, fun _ => ⟨rfl, rfl⟩⟩, ?_, ⟨bA2, bc2, vv2, gv2, C9⟩, H2.out.2.2.2.trans (kq_set HC2.out.row HC2.out.lp _ _)⟩
    exact H2.out.2.1.far (P := fun b => b = p) ⟨G.os, G.tape, G.output, G.size, fun b hlt hne => G.block b hlt (fun e => hne (by injection e))⟩ (fun b hT9 hP => hT9 (by rw [hP]; exact HC2.out.tp))
end Go.Proofs.YtdbhgkbmbbjpdaaGreatDoor.Chr
