/- Open, where nothing went wrong. -/
import Derived.Test.YtdbhgkbmbbjpdaaGreatDoorOe
namespace Go.Proofs.YtdbhgkbmbbjpdaaGreatDoor.Chr
variable {lo : Nat}
open Go.ChangeShapes Go.WideShapes Go.ChangeAt Go.RowKit
open Shf (S str)
open Coin (Rd Row Own sz coin got Pur takeV endV CoinSaid)
open Frm (pack err size kind cnt body noItem itemV OneSaid)
set_option maxRecDepth 8000
set_option linter.unusedVariables false
open Shf (Tag Ext Rep M RdN get Fine nameOk act_now ages wo wi Mv)
theorem adm_ok {c : CD} {m : M} {k : UInt8} {p : S} {m' : M} {c' : CD} (ha : AdM c m k p 0 m' c') (hno : c.nextNo < 100) {K : Nat} (hk : Nms m K) : m'.done ≤ m.done + 7 ∧ Nms m' (K + 2) := by
  rcases ha with ⟨l, d, hl, hlt, he, rfl, hc⟩ | ⟨_, h2⟩
  · have := sm_append m (vName d.no) (pack k p)
    exact ⟨by omega, nms_mono (nms_append hk _ _) (by omega)⟩
  · rcases h2 with ⟨h0, he, _⟩ | ⟨_, en, mb, cb, hb, h3⟩
    · exact absurd he.symm h0
    · rcases h3 with ⟨h0, he, _⟩ | ⟨rfl, _, h4⟩
      · exact absurd he.symm h0
      · obtain ⟨hres, _⟩ := bg_zero hb
        have sk : Nms (syM c m).2 K := by
          unfold syM
          split
          · exact hk
          · exact nms_sync hk _
        have ss := syM_small c m
        obtain ⟨b1, b2, b3⟩ := bres_small hres (vName_le _ hno) sk
        rcases h4 with ⟨_, _, rfl, _⟩ | ⟨h5, he, _⟩
        · have := sm_append mb (vName c.nextNo) (pack k p)
          exact ⟨by omega, nms_append b3 _ _⟩
        · unfold undoM at he
          split at he
          · exact absurd he.symm h5
          · rename_i h6; exact absurd he.symm h6
structure CZ (c : CD) (m : M) : Prop where
  hU : c.hU ≤ 1000000
  sz : ∀ d ∈ c.vols, d.size ≤ 800000
  bs : c.base.length ≤ 800000
  dn : m.done ≤ 500000
  ns : Nms m 4000
  rm : -1000000000000 ≤ m.room
theorem CG.tvi {c : CD} {m : M} (h : CG c m) (N : CN c) (Z : CZ c m) (mo : Nat) : TvI {c with most := mo, vols := []} m := by
  have hN := N.no
  have hZ := Z.hU
  have hd := Z.dn
  refine ⟨⟨by show c.hF < _; omega, by show c.hU < _; omega, Nat.zero_le _, fun d hd => by cases hd⟩, by show c.hF ≤ 99; omega, ?_, by show 0 + (99 - c.hF) ≤ 500; omega, by show m.done + (99 - c.hF) ≤ 700000; omega, fun s => ?_, ?_, fun d hd => by cases hd⟩
  · show c.hU + 1 + (99 - c.hF) * 900000 ≤ 500000000
    have : (99 - c.hF) * 900000 ≤ 99 * 900000 := Nat.mul_le_mul_right _ (by omega)
    omega
  · rw [h.on.readP]
    cases hg : get m.now s with
    | none => unfold fileOf; rw [hg]; exact Nat.zero_le _
    | some b =>
      rcases h.only s (by rw [hg]; simp) with e | ⟨hB, e⟩ | ⟨d, hd, e⟩
      · rw [e, h.idx.1]
        show (headB _ _ _).length ≤ _
        unfold headB
        rw [Frm.length_pack]
        have h1 := coins_len [c.hF, c.hB, c.hU]
        have h2 := Coin.sz_le (coins [c.hF, c.hB, c.hU]).length
        simp only [List.length_cons, List.length_nil] at h1
        omega
      · rw [e, (h.ba hB).1]
        show (pack _ _).length ≤ _
        rw [Frm.length_pack]
        have h2 := Coin.sz_le c.base.length
        have h3 := Z.bs
        omega
      · rw [e, (h.vo d hd).1]
        show (volB d).length ≤ _
        rw [← (volIs_of (h.vo d hd).2.1).2]
        have := Z.sz d hd
        omega
  · rw [h.on.readE]
    unfold fileOf
    rw [h.nogot (by omega) (by have := N.hB; omega) 99 (by omega) (fun i hi e => by omega)]
    show (2 : Nat) ≠ 0
    decide
theorem open_cg (w : World) (T : Nat → Tag) (q : Nat) (m : M) (c : CD) (mo : Nat) (R : Rep w T q m) (h : CG c m) (N : CN c) (Z : CZ c m) (hlo : lo ≤ w.heap.size) :
    Calls Tryz.prog 11 #[.pointer (some ⟨q, 0, none⟩), .int .i64 (mo : Int)] w fun e w' => ∃ p T', e = .returned (.tuple #[.pointer (some ⟨p, 0, none⟩), .int .i64 0]) ∧ Rep w' T' q m ∧ CAt lo w' T' p q {c with most := mo} ∧ Kq lo w T w' T' ∧ w.heap.size ≤ p := by
  have hN := N.no
  have hNB := N.hB
  have hZ := Z.hU
  have he : m.readE idxN = 0 := by rw [h.on.readE, h.idx.1]
  have hp : m.readP idxN = headB c.hF c.hB c.hU := by rw [h.on.readP, h.idx.1]; rfl
  obtain ⟨r1, r2, r3, r4⟩ := head_read c.hF c.hB c.hU (by omega) (by omega) (by omega)
  rw [← hp] at r1 r2 r3 r4
  have I := h.tvi N Z mo
  have fin : ∀ e w', OpSaid w.heap.size w T q m {c with most := mo, vols := []} false e w' → ∃ p T', e = .returned (.tuple #[.pointer (some ⟨p, 0, none⟩), .int .i64 0]) ∧ Rep w' T' q m ∧ CAt lo w' T' p q {c with most := mo} ∧ Kq lo w T w' T' ∧ w.heap.size ≤ p := fun e w' ⟨p, en, m', c', T', e1, ho, R', C', K', hps⟩ => by
    obtain ⟨rfl, rfl, rfl⟩ := h.again N mo ho
    exact ⟨p, T', e1, R', C'.mono hlo, K'.mono hlo, hps⟩
  by_cases hB : c.hB = 0
  · have hc : (⟨mo, valP (body (m.readP idxN)) 0, valP (body (m.readP idxN)) 1, valP (body (m.readP idxN)) 2, [], [], false⟩ : CD) = {c with most := mo, vols := []} := by
      rw [r2, r3, r4, ← h.b0 hB, ← h.nf]
    refine (open_old w T q m mo R he r1 (by rw [r3]; exact hB) (by rw [hc]; exact I) (by rw [r3]; omega) Z.ns (by have := Z.dn; omega) Z.rm).mono fun e w' ho => ?_
    rw [hc] at ho
    exact fin e w' ho
  · obtain ⟨b1, b2, b3⟩ := h.ba hB
    have hbp : m.readP (bName c.hB) = pack 98 c.base := by rw [h.on.readP, b1]; rfl
    have hbe : m.readE (bName c.hB) = 0 := by rw [h.on.readE, b1]
    have k := Frm.err_pack 98 c.base [] b3
    rw [List.append_nil] at k
    obtain ⟨k1, k2, k3, k4⟩ := k
    have hc : (⟨mo, valP (body (m.readP idxN)) 0, valP (body (m.readP idxN)) 1, valP (body (m.readP idxN)) 2, (body (m.readP (bName (valP (body (m.readP idxN)) 1)))), [], false⟩ : CD) = {c with most := mo, vols := []} := by
      rw [r2, r3, r4, hbp, k3, ← h.nf]
    refine (open_oldB w T q m mo R he r1 (by rw [r3]; exact hB) (by rw [r3]; exact hbe) (by rw [r3, hbp]; unfold whole; rw [k1, k2]; simp) (by rw [r3, hbp, k4]; rfl) (by rw [hc]; exact I) (by rw [r3]; omega) Z.ns (by have := Z.dn; omega) Z.rm).mono fun e w' ho => ?_
    rw [hc] at ho
    exact fin e w' ho
end Go.Proofs.YtdbhgkbmbbjpdaaGreatDoor.Chr
