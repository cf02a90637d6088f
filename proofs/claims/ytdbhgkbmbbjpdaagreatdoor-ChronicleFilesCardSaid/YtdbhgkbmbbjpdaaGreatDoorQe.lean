/- Fold, where nothing goes wrong: and what it leaves as it was. -/
import Derived.Test.YtdbhgkbmbbjpdaaGreatDoorQd
namespace Go.Proofs.YtdbhgkbmbbjpdaaGreatDoor.Chr
open Go.ChangeShapes Go.WideShapes Go.ChangeAt Go.RowKit
open Shf (S str)
open Coin (Rd Row Own sz coin got Pur takeV endV CoinSaid CoinOwn)
open Frm (pack err size kind cnt body noItem itemV OneSaid)
set_option maxRecDepth 8000
set_option linter.unusedVariables false
open Shf (Tag Ext Rep M RdN get Fine)
variable {lo : Nat}
theorem OwnO.addr {w : World} {e : TypeId} {sz : Nat} {v : Value} {n : Nat} {xs : List Value} {gl : Option Nat} {g : Nat} (h : OwnO w e sz v n xs gl) (hg : gl = some g) : ∃ o n k, v = .slice (some ⟨g, o, none⟩) n k := by
  obtain ⟨-, A, cap, h1, -, -, -, h5, h6⟩ := h
  rcases Nat.eq_zero_or_pos cap with h0 | h0
  · rw [h5 h0] at hg; cases hg
  · obtain ⟨g', off, cur, e1, e2, -⟩ := h6 h0
    rw [hg] at e2; injection e2 with e2
    subst e2 e1
    exact ⟨off, n, cap, h1⟩
theorem sync_cz (w : World) (T : Nat → Tag) (p q : Nat) (m : M) (c : CD) (R : Rep w T q m) (C : CAt lo w T p q c) (h : CG c m) (N : CN c) (hs : c.Small) (hd : m.done < 600000) :
    Calls Tryz.prog 23 #[.pointer (some ⟨p, 0, none⟩)] w fun e w' => ∃ m' T', e = .returned (.int .i64 0) ∧ CG c m' ∧ AllSync c m' ∧ Rep w' T' q m' ∧ CAt lo w' T' p q c ∧ Kp w T w' T' ∧ m'.room = m.room ∧ m'.named + m'.gone = m.named + m.gone ∧ m'.done ≤ m.done + 1 ∧ ∀ K, Nms m K → Nms m' K := by
  refine (sync_any w T p q m c R C hs (fun d hd => by have := h.no_lt N hd; omega) (by omega)).mono ?_
  rintro e w' ⟨T', rfl, R', X'⟩
  obtain ⟨s1, s2, s3, s4, s5⟩ := h.sync
  refine ⟨(syM c m).2, T', by rw [s1]; rfl, s2, s3, R', C.keep (kp_ext X'), kp_ext X', s4, s5, (syM_small c m).1, fun K hk => ?_⟩
  unfold syM
  split
  · exact hk
  · exact nms_sync hk _
set_option maxHeartbeats 4000000 in
theorem fold_cz (w : World) (T : Nat → Tag) (p q : Nat) (m : M) (c : CD) (R : Rep w T q m) (C : CAt lo w T p q c) (h : CG c m) (N : CN c) (hB : c.hB < 98) (hs : c.Small) (hnx : c.next < 1000000000) (hd : m.done < 600000) (hms : Nms m 8000) (u : Nat) (hu : c.hU < u) (hun : u < c.next) (A : Option Addr) (n9 cp : Nat) (bs : S) (hn9 : n9 = bs.length) (hP : AAt w T A cp bs) (hbl : bs.length ≤ 1000) (hr : (m.named + m.gone + 2000 : Int) ≤ m.room) :
    Calls Tryz.prog 32 #[.pointer (some ⟨p, 0, none⟩), .int .u64 (u : Int), .slice A n9 cp] w fun e w' => ∃ m' T', e = .returned (.int .i64 0) ∧ CG (foldC c u bs) m' ∧ AllSync (foldC c u bs) m' ∧ CN (foldC c u bs) ∧ Rep w' T' q m' ∧ CAt lo w' T' p q (foldC c u bs) ∧ Kq lo w T w' T' ∧ m'.room = m.room ∧ m'.named + m'.gone ≤ m.named + m.gone + bs.length + 100 ∧ m'.done ≤ m.done + 8100 ∧ (∀ z, z < w.heap.size → T z = .none → z ≠ p → (∀ bA bc vv, w.heap[p]? = some (.cells (cC q c bA bc vv) 82 (0, 0)) → ∀ o n c, vv ≠ .slice (some ⟨z, o, none⟩) n c) → w'.heap[z]? = w.heap[z]?) := by
  have hne := h.vols_ne u hu hun
  have hElt := endL_lt c.vols u hne
  have hN := hs.n
  have hvl : c.vols.length < 99 := by have := N.no; omega
  have hno := h.nos
  have HPLT : Hid (p < w.heap.size) := Lib.hid (by obtain ⟨_, _, _, _, C0⟩ := C; exact (Array.getElem?_eq_some_iff.1 C0.row).1)
  have HPT : Hid (T p = .none) := Lib.hid (by obtain ⟨_, _, _, _, C0⟩ := C; exact C0.tp)
  have c19 := next_any w T p q c C hs
  have HC23 : Hid (∀ y, Below w.heap.size w y → Calls Tryz.prog 23 #[.pointer (some ⟨p, 0, none⟩)] y fun e w' => ∃ m' T', e = .returned (.int .i64 0) ∧ CG c m' ∧ AllSync c m' ∧ Rep w' T' q m' ∧ CAt lo w' T' p q c ∧ Kp y T w' T' ∧ m'.room = m.room ∧ m'.named + m'.gone = m.named + m.gone ∧ m'.done ≤ m.done + 1 ∧ ∀ K, Nms m K → Nms m' K) := Lib.hid (fun y hy => sync_cz y T p q m c (R.below hy) (C.keep (kp_below hy T)) h N hs (by omega))
  obtain ⟨E, hE⟩ : ∃ E, E = endL c.vols u := ⟨_, rfl⟩
  obtain ⟨nx, hnx9⟩ : ∃ n, n = c.next := ⟨_, rfl⟩
  rw [← hnx9] at c19 hun hnx
  rw [← hE] at hElt
  have HE := Lib.hid hE
  have HNX := Lib.hid hnx9
  have HP := Lib.hid hP
  have HH := Lib.hid h
  have HN := Lib.hid N
  have HSM := Lib.hid hs
  have HN9 := Lib.hid hn9
  have HMS := Lib.hid hms
  have HNO := Lib.hid hno
  have HNE := Lib.hid hne
  obtain ⟨bA, bc, vv, gv, Cv⟩ := C
  have hr0 := Cv.row
  unfold cC at hr0
  obtain ⟨p0, p1, p2, p3, p4, p5, p6, p7, -⟩ := row8 hr0
  have k1 : decide ((u : Int) ≤ (c.hU : Int)) = false := by simp; omega
  have k2 : decide ((nx : Int) ≤ (u : Int)) = false := by simp; omega
  have k3 : decide ((1048576 : Int) < (n9 : Int)) = false := by simp; omega
  have hub : u < 1000000000 := by omega
  clear R h N hs hnx9 hE hn9 hP hms hno hne Cv hr0 p0 p1 p2 p3 p5 p6 p7
  go_enter Tryz.func32, Tryz.ntmps32
  go_wp2_with fail
  refine c19.mono ?_
  rintro e wa ⟨rfl, Ba⟩
  have HBa := Lib.hid Ba
  clear c19 Ba p4
  go_wp2_with fail
  refine (HC23.out wa HBa.out).mono ?_
  rintro e wb ⟨m2, T2, rfl, h2⟩
  have H2 := Lib.hid h2
  clear h2 HC23 k1 k2 k3
  have c61 := ended_any wb T2 p q c H2.out.2.2.2.1 HSM.out HNE.out (fun d hd => (H2.out.1.vo d hd).2.2) u hub
  rw [← HE.out] at c61
  go_wp2_with fail
  refine c61.mono ?_
  rintro e w2 ⟨rfl, B2⟩
  have HB2 := Lib.hid B2
  clear c61 B2
  obtain ⟨bA2, bc2, vv2, gv2, C2⟩ := H2.out.2.2.2.1.keep (kp_below HB2.out T2)
  obtain ⟨vA, vcap, rfl⟩ := C2.nil
  have hEl : E < c.vols.length := hElt
  obtain ⟨g, off, lA, lc, rfl, -, hcap, hv⟩ := C2.vs.in' (Below.refl _ _) E hEl
  have hfno := HNO.out E _ (List.getElem?_eq_getElem hEl)
  have HV0' := hv.k0
  rw [hfno] at HV0'
  obtain ⟨fno, hf9⟩ : ∃ f, f = c.hF + E := ⟨_, rfl⟩
  rw [← hf9] at HV0'
  have HV0 := Lib.hid HV0'
  have HGL := Lib.hid (block_lt_of_cell HV0')
  have HFNO := Lib.hid hf9
  obtain ⟨n, hnn⟩ : ∃ n, n = c.vols.length := ⟨_, rfl⟩
  have hr2 := C2.row
  unfold cC at hr2
  rw [← hnn] at hr2
  have HROW := Lib.hid hr2
  rw [← hnn] at C2 hEl hcap
  have HC2 := Lib.hid C2
  have HNN := Lib.hid hnn
  obtain ⟨hB1, hB9⟩ : ∃ b, b = c.hB + 1 := ⟨_, rfl⟩
  have HZ : Hid (IntKind.u64.wrap ((c.hB : Int) + 1) = (hB1 : Int)) := Lib.hid (by rw [IntKind.wrap_u64]; omega)
  have HHB1 := Lib.hid hB9
  clear hfno HV0' hf9 hnn hr2 C2 hB9 hv hElt
  go_wp2_with fail
  refine wp_region_noPanic ?_
  refine wp_region_held_drew (S := fun y : World => Below w2.heap.size w2 y) (by kernel_rfl) (Below.refl _ _).drew (fun hHeld => ?_)
  generalize w2.drew = wd at *
  refine wpAnyH_take (i := 0) (oi := ⟨some 41, .move (.tmp 0), 26, "chronicle.go:202", #[], none⟩) (v := .pointer (some ⟨p, 0, none⟩)) rfl (by kernel_rfl) (by kernel_rfl) (by kernel_rfl) (fun _ _ _ h => h) (Or.inl ⟨by rfl, fun w hSw => by go_simp⟩) (by assumption) ?_
  try simp only [Act.put, stA, stB, stC]
  refine wpAnyH_take (i := 1) (oi := ⟨some 42, .nilCheck (.tmp 41), 0, "chronicle.go:202", #[⟨0, .data⟩], none⟩) (v := .pointer (some ⟨p, 0, none⟩)) rfl (by kernel_rfl) (by kernel_rfl) (by kernel_rfl) (fun _ _ _ h => h) (Or.inl ⟨by rfl, fun w hSw => by go_simp⟩) (by assumption) ?_
  try simp only [Act.put, stA, stB, stC]
  refine wpAnyH_take (i := 2) (oi := ⟨some 43, .fieldAddr 82 (.tmp 42) 4, 0, "chronicle.go:202", #[⟨1, .data⟩], none⟩) (v := .pointer (some ⟨p, 6, none⟩)) rfl (by kernel_rfl) (by kernel_rfl) (by kernel_rfl) (fun _ _ _ h => h) (Or.inl ⟨by rfl, fun w hSw => by go_simp⟩) (by assumption) ?_
  try simp only [Act.put, stA, stB, stC]
  refine wpAnyH_take (i := 3) (oi := ⟨some 44, .load 53 (.tmp 43), 53, "chronicle.go:202", #[⟨2, .data⟩], none⟩) (v := .slice (some ⟨g, off, none⟩) n vcap) rfl (by kernel_rfl) (by kernel_rfl) (by kernel_rfl) (fun _ _ _ h => h) (Or.inl ⟨by rfl, fun w hSw => by obtain ⟨p0, p1, p2, p3, p4, p5, p6, p7, -⟩ := row8 ((hSw.block p (Array.getElem?_eq_some_iff.1 HROW.out).1).trans HROW.out); go_simp⟩) (by assumption) ?_
  try simp only [Act.put, stA, stB, stC]
  refine wpAnyH_take (i := 4) (oi := ⟨some 45, .move (.tmp 8), 3, "chronicle.go:202", #[], none⟩) (v := .int .i64 (E : Int)) rfl (by kernel_rfl) (by kernel_rfl) (by kernel_rfl) (fun _ _ _ h => h) (Or.inl ⟨by rfl, fun w hSw => by go_simp⟩) (by assumption) ?_
  try simp only [Act.put, stA, stB, stC]
  refine wpAnyH_take (i := 5) (oi := ⟨some 46, .indexAddr 53 (.tmp 44) (.tmp 45), 0, "chronicle.go:202", #[⟨3, .data⟩, ⟨4, .data⟩], none⟩) (v := .pointer (some ⟨g, off + E * 4, none⟩)) rfl (by kernel_rfl) (by kernel_rfl) (by kernel_rfl) (fun _ _ _ h => h) (Or.inl ⟨by rfl, fun w hSw => by go_simp⟩) (by assumption) ?_
  try simp only [Act.put, stA, stB, stC]
  refine wpAnyH_take (i := 6) (oi := ⟨some 47, .fieldAddr 60 (.tmp 46) 0, 0, "chronicle.go:202", #[⟨5, .data⟩], none⟩) (v := .pointer (some ⟨g, off + E * 4, none⟩)) rfl (by kernel_rfl) (by kernel_rfl) (by kernel_rfl) (fun _ _ _ h => h) (Or.inl ⟨by rfl, fun w hSw => by go_simp⟩) (by assumption) ?_
  try simp only [Act.put, stA, stB, stC]
  refine wpAnyH_take (i := 7) (oi := ⟨some 48, .load 42 (.tmp 47), 42, "chronicle.go:202", #[⟨6, .data⟩], none⟩) (v := .int .u64 (fno : Int)) rfl (by kernel_rfl) (by kernel_rfl) (by kernel_rfl) (fun _ _ _ h => h) (Or.inl ⟨by rfl, fun w hSw => by have f0 := (hSw.cell (p := ⟨g, off + E * 4, none⟩) HGL.out).trans HV0.out; go_simp⟩) (by assumption) ?_
  try simp only [Act.put, stA, stB, stC]
  refine wpAnyH_take (i := 8) (oi := ⟨some 49, .move (.tmp 0), 26, "chronicle.go:202", #[], none⟩) (v := .pointer (some ⟨p, 0, none⟩)) rfl (by kernel_rfl) (by kernel_rfl) (by kernel_rfl) (fun _ _ _ h => h) (Or.inl ⟨by rfl, fun w hSw => by go_simp⟩) (by assumption) ?_
  try simp only [Act.put, stA, stB, stC]
  refine wpAnyH_take (i := 9) (oi := ⟨some 50, .nilCheck (.tmp 49), 0, "chronicle.go:202", #[⟨8, .data⟩], none⟩) (v := .pointer (some ⟨p, 0, none⟩)) rfl (by kernel_rfl) (by kernel_rfl) (by kernel_rfl) (fun _ _ _ h => h) (Or.inl ⟨by rfl, fun w hSw => by go_simp⟩) (by assumption) ?_
  try simp only [Act.put, stA, stB, stC]
  refine wpAnyH_take (i := 10) (oi := ⟨some 51, .fieldAddr 82 (.tmp 50) 2, 0, "chronicle.go:202", #[⟨9, .data⟩], none⟩) (v := .pointer (some ⟨p, 2, none⟩)) rfl (by kernel_rfl) (by kernel_rfl) (by kernel_rfl) (fun _ _ _ h => h) (Or.inl ⟨by rfl, fun w hSw => by go_simp⟩) (by assumption) ?_
  try simp only [Act.put, stA, stB, stC]
  refine wpAnyH_take (i := 11) (oi := ⟨some 52, .fieldAddr 45 (.tmp 51) 1, 0, "chronicle.go:202", #[⟨10, .data⟩], none⟩) (v := .pointer (some ⟨p, 3, none⟩)) rfl (by kernel_rfl) (by kernel_rfl) (by kernel_rfl) (fun _ _ _ h => h) (Or.inl ⟨by rfl, fun w hSw => by go_simp⟩) (by assumption) ?_
  try simp only [Act.put, stA, stB, stC]
  refine wpAnyH_take (i := 12) (oi := ⟨some 53, .load 42 (.tmp 52), 42, "chronicle.go:202", #[⟨11, .data⟩], none⟩) (v := .int .u64 (c.hB : Int)) rfl (by kernel_rfl) (by kernel_rfl) (by kernel_rfl) (fun _ _ _ h => h) (Or.inl ⟨by rfl, fun w hSw => by obtain ⟨p0, p1, p2, p3, p4, p5, p6, p7, -⟩ := row8 ((hSw.block p (Array.getElem?_eq_some_iff.1 HROW.out).1).trans HROW.out); go_simp⟩) (by assumption) ?_
  try simp only [Act.put, stA, stB, stC]
  refine wpAnyH_take (i := 13) (oi := ⟨some 54, .binOp .add 42 (.tmp 53) (.const (.int .u64 1)) 42, 42, "chronicle.go:202", #[⟨12, .data⟩], none⟩) (v := .int .u64 (hB1 : Int)) rfl (by kernel_rfl) (by kernel_rfl) (by kernel_rfl) (fun _ _ _ h => h) (Or.inl ⟨by rfl, fun w hSw => by have hz := HZ.out; go_simp⟩) (by assumption) ?_
  try simp only [Act.put, stA, stB, stC]
  refine wpAnyH_take (i := 14) (oi := ⟨some 55, .move (.tmp 1), 42, "chronicle.go:202", #[], none⟩) (v := .int .u64 (u : Int)) rfl (by kernel_rfl) (by kernel_rfl) (by kernel_rfl) (fun _ _ _ h => h) (Or.inl ⟨by rfl, fun w hSw => by go_simp⟩) (by assumption) ?_
  try simp only [Act.put, stA, stB, stC]
  refine wpAnyH_take (i := 15) (oi := ⟨some 56, .build 45 #[(0, .tmp 48), (1, .tmp 54), (2, .tmp 55)], 45, "chronicle.go:202", #[⟨7, .data⟩, ⟨13, .data⟩, ⟨14, .data⟩], none⟩) (v := .agg #[.int .u64 (fno : Int), .int .u64 (hB1 : Int), .int .u64 (u : Int)]) rfl (by kernel_rfl) (by kernel_rfl) (by kernel_rfl) (fun _ _ _ h => h) (Or.inl ⟨by rfl, fun w hSw => by go_simp⟩) (by assumption) ?_
  try simp only [Act.put, stA, stB, stC]
  refine wpAnyH_ready (rs := [16]) (by kernel_rfl) (by simp) ?_
  refine AllReadyH.cons (o := ⟨some 9, .alloc 45, 0, "chronicle.go:202", #[], none⟩) rfl (fun K hK => ?_) AllReadyH.nil
  go_simp
  have N6' := heap_alloc_new wd (.cells #[.int .u64 0, .int .u64 0, .int .u64 0] 45)
  have BW := hHeld.alloc hHeld.size (.cells #[.int .u64 0, .int .u64 0, .int .u64 0] 45)
  have HLE := Lib.hid hHeld.size
  obtain ⟨hb, hhb⟩ : ∃ k, k = wd.heap.size := ⟨_, rfl⟩
  rw [← hhb] at N6' HLE
  have N6 := Lib.hid N6'
  clear N6'
  generalize wd.alloc (.cells #[.int .u64 0, .int .u64 0, .int .u64 0] 45) = wd at *
  simp only [← hhb]
  clear hhb
  refine hK.out _ _ (BW) (fun hHeld => ?_)
  clear hK K
  try simp only [Act.put, stA, stB, stC]
  clear BW
  refine wpAnyH_ready (rs := [17]) (by kernel_rfl) (by simp) ?_
  refine AllReadyH.cons (o := ⟨none, .store 45 (.tmp 9) (.tmp 56), 0, "chronicle.go:202", #[⟨16, .data⟩, ⟨15, .data⟩, ⟨0, .phase⟩, ⟨1, .phase⟩, ⟨2, .phase⟩, ⟨3, .phase⟩, ⟨4, .phase⟩, ⟨5, .phase⟩, ⟨6, .phase⟩, ⟨7, .phase⟩, ⟨8, .phase⟩, ⟨9, .phase⟩, ⟨10, .phase⟩, ⟨11, .phase⟩, ⟨12, .phase⟩, ⟨13, .phase⟩, ⟨14, .phase⟩, ⟨15, .phase⟩, ⟨16, .phase⟩], none⟩) rfl (fun K hK => ?_) AllReadyH.nil
  obtain ⟨z0, z1, z2⟩ := three3 N6.out
  have zf := fun i => frozen_of_row _ hb i _ 45 N6.out
  go_simp
  have r4 := put3 N6.out (.int .u64 (fno : Int)) (.int .u64 (hB1 : Int)) (.int .u64 (u : Int))
  have g4 := set3_grown wd hb (.int .u64 (fno : Int)) (.int .u64 (hB1 : Int)) (.int .u64 (u : Int))
  have B4 := Coin.below_grown hHeld g4 HLE.out
  have HBOX := Lib.hid r4
  clear r4 g4 z0 z1 z2 zf
  refine hK.out _ _ (B4) (fun hHeld => ?_)
  clear hK K
  try simp only [Act.put, stA, stB, stC]
  have HB3 := Lib.hid B4
  clear B4
  refine wpAnyH_done (by kernel_rfl) ?_ _
  try unfold NoPanic
  obtain ⟨w3, hw3⟩ : ∃ W, W = ((wd.setCell ⟨hb, 0, none⟩ (.int .u64 (fno : Int))).setCell ⟨hb, 1, none⟩ (.int .u64 (hB1 : Int))).setCell ⟨hb, 2, none⟩ (.int .u64 (u : Int)) := ⟨_, rfl⟩
  rw [← hw3] at HBOX HB3 ⊢
  clear hw3
  have HR2 : Hid (Rep w2 T2 q m2) := Lib.hid (H2.out.2.2.1.below HB2.out)
  have hT2 : ∀ b, w2.heap.size ≤ b → T2 b = .none := fun b hb => rep_old HR2.out hb
  have HT2 := Lib.hid hT2
  clear hT2
  have hP2 : AAt w2 T2 A cp bs := ((HP.out.below HBa.out).kq (kq_kp (lo := lo) H2.out.2.2.2.2.1)).below HB2.out
  have HP3 : Hid (AAt w3 T2 A cp bs) := Lib.hid (hP2.below HB3.out)
  have HR3 : Hid (Rep w3 T2 q m2) := Lib.hid (HR2.out.below HB3.out)
  have HC3 : Hid (CAt lo w3 T2 p q c) := Lib.hid (H2.out.2.2.2.1.keep (kp_below (HB2.out.trans (HB3.out.mono HB2.out.size)) T2))
  clear hP2
  obtain ⟨z0, z1, z2⟩ := three3 HBOX.out
  have c33 := base_any w3 hB1 (by have := HHB1.out; omega)
  have c62 : Calls Tryz.prog 62 #[.int .u8 98, .slice A n9 cp] w3 (CoinOwn w3 (pack 98 bs)) := by
    rw [HN9.out]; exact Frm.pack_own 98 A cp bs w3 (by omega) (aat_rd HP3.out) HP3.out.1
  have hpl : (pack 98 bs).length ≤ bs.length + 20 := by
    rw [Frm.length_pack]
    have := Coin.sz_le bs.length
    omega
  clear z0 z2
  go_wp2_with (first | (go_at_call 33; ((with_reducible refine c33.mono ?_); rintro e w' ⟨rfl, rfl⟩)) | (go_at_call 62; ((with_reducible refine c62.mono ?_); rintro e w4 ⟨v4, rfl, O4, B4⟩; have HO4 := Lib.hid O4; have HB4 := Lib.hid B4; clear O4 B4)))
  clear c33 c62 z1
  obtain ⟨A4, c4, rfl, -, -, hA4⟩ := HO4.out.form
  have hb1 := bn_ne hB1 (by have := HHB1.out; omega)
  have c44 := write_nw w4 T2 p q m2 c (HR3.out.below HB4.out) (HC3.out.keep (kp_below HB4.out T2)) HSM.out (by omega) (fun d hd => by have := H2.out.1.no_lt HN.out hd; omega) (by have := H2.out.2.2.2.2.2.2.2.1; omega) (nms_mono (H2.out.2.2.2.2.2.2.2.2 _ HMS.out) (by omega)) H2.out.1.on H2.out.1.ages (H2.out.1.nobes HN.out) (bName hB1) hb1.2.2.2.2 hb1.2.2.2.1 hb1.2.2.1 (Ne.symm hb1.2.1) A4 c4 (pack 98 bs).length (pack 98 bs) rfl (rdn_own HO4.out (fun b hb => HT2.out b (Nat.le_trans HB3.out.size hb))) hA4 (by omega) (by have h1 := H2.out.2.2.2.2.2.1; have h2 := H2.out.2.2.2.2.2.2.1; omega)
  obtain ⟨pl, hpl9⟩ : ∃ pl, pl = (pack 98 bs).length := ⟨_, rfl⟩
  rw [← hpl9] at c44 hpl ⊢
  have HPL := Lib.hid hpl9
  clear hpl9 hA4
  have HB24 := Lib.hid (HB3.out.trans (HB4.out.mono HB3.out.size))
  have HBX4 := Lib.hid ((HB4.out.block hb (Array.getElem?_eq_some_iff.1 HBOX.out).1).trans HBOX.out)
  refine c44.mono ?_
  rintro e w5 ⟨m5, T5, rfl, nw5, nb5, R5, C5, X5, d5, s5⟩
  clear c44
  have HNW5 := Lib.hid nw5
  have HS5 := Lib.hid (And.intro nb5 (And.intro R5 (And.intro C5 (And.intro X5 (And.intro d5 s5)))))
  clear nw5 nb5 R5 C5 X5 d5 s5
  have HBX5 := Lib.hid ((HS5.out.2.2.2.1.block hb (Array.getElem?_eq_some_iff.1 HBX4.out).1 (HT2.out hb HLE.out)).trans HBX4.out)
  obtain ⟨z0, z1, z2⟩ := three3 HBX5.out
  have c38 := head_own w5 fno hB1 u (by have := HFNO.out; have := HN.out.no; omega) (by have := HHB1.out; omega) (by omega)
  go_wp2_with (first | (go_at_call 38; ((with_reducible refine c38.mono ?_); rintro e w6 ⟨v6, rfl, O6, B6⟩; have HO6 := Lib.hid O6; have HB6 := Lib.hid B6; clear O6 B6)))
  clear c38 z0 z1 z2
  obtain ⟨A6, c6, rfl, -, -, hA6⟩ := HO6.out.form
  have hhl := head_le fno hB1 u
  have c44 := write_nw w6 T5 p q m5 c (HS5.out.2.1.below HB6.out) (HS5.out.2.2.1.keep (kp_below HB6.out T5)) HSM.out (by omega) (fun d hd => by have := H2.out.1.no_lt HN.out hd; omega) (by have := H2.out.2.2.2.2.2.2.2.1; have := HS5.out.2.2.2.2.1; omega) (nms_mono (HS5.out.2.2.2.2.2 _ (H2.out.2.2.2.2.2.2.2.2 _ HMS.out)) (by omega)) HNW5.out.on (by rw [HNW5.out.moves, HNW5.out.safe]; rfl) HS5.out.1 idxN (by decide) (by decide) (by decide) (by decide) A6 c6 (headB fno hB1 u).length (headB fno hB1 u) rfl (rdn_own HO6.out (fun b hb => rep_old HS5.out.2.1 hb)) hA6 (by omega) (by have h1 := H2.out.2.2.2.2.2.1; have h2 := H2.out.2.2.2.2.2.2.1; have h3 := HNW5.out.named; have h4 := HNW5.out.gone; have h5 := HNW5.out.room; have h6 := HPL.out; omega)
  rw [show str idxN = (⟨#[105, 110, 100, 101, 120]⟩ : ByteArray) from rfl] at c44
  obtain ⟨hl, hhl9⟩ : ∃ pl, pl = (headB fno hB1 u).length := ⟨_, rfl⟩
  rw [← hhl9] at c44 hhl ⊢
  have HHL := Lib.hid hhl9
  clear hhl9 hA6
  have HBX6 := Lib.hid ((HB6.out.block hb (Array.getElem?_eq_some_iff.1 HBX5.out).1).trans HBX5.out)
  refine c44.mono ?_
  rintro e w7 ⟨m7, T7, rfl, nw7, nb7, R7, C7, X7, d7, s7⟩
  clear c44
  have HNW7 := Lib.hid nw7
  obtain ⟨bA7, bc7, vv7, gv7, C7⟩ := C7
  obtain ⟨vA7, vc7, rfl⟩ := C7.nil
  have hT5 : T5 hb = .none := by
    have := HS5.out.2.2.2.1.tags hb (Array.getElem?_eq_some_iff.1 HBX4.out).1
    rw [this]; exact HT2.out hb HLE.out
  have HBX7 := Lib.hid ((X7.block hb (Array.getElem?_eq_some_iff.1 HBX6.out).1 hT5).trans HBX6.out)
  have HKQ7 : Hid (Kq lo w T w7 T7) := Lib.hid ((((((((kq_kp (kp_below HBa.out T)).trans (kq_kp H2.out.2.2.2.2.1)).trans (kq_kp (kp_below HB2.out T2))).trans (kq_kp (kp_below HB24.out T2))).trans (kq_kp (kp_ext HS5.out.2.2.2.1))).trans (kq_kp (kp_below HB6.out T5)))).trans (kq_kp (kp_ext X7)))
  have HKP7 : Hid (Kp w T w7 T7) := Lib.hid (((((((((kp_below HBa.out T)).trans (H2.out.2.2.2.2.1)).trans ((kp_below HB2.out T2))).trans ((kp_below HB24.out T2))).trans ((kp_ext HS5.out.2.2.2.1))).trans ((kp_below HB6.out T5)))).trans ((kp_ext X7)))
  have HVV := Lib.hid (fun z (hzv : ∀ bA bc vv, w.heap[p]? = some (.cells (cC q c bA bc vv) 82 (0, 0)) → ∀ o n c, vv ≠ .slice (some ⟨z, o, none⟩) n c) => hzv)
  have HP7 := Lib.hid (HP.out.kq HKQ7.out)
  have HNE : Hid (hb ≠ p) := Lib.hid (fun e => by have h1 := HBX7.out; rw [e, C7.row] at h1; injection h1 with h1; injection h1 with a b; exact absurd b (by decide))
  have HHB := Lib.hid (Array.getElem?_eq_some_iff.1 HBX7.out).1
  have HS7 := Lib.hid (And.intro nb7 (And.intro R7 (And.intro C7 (And.intro d7 s7))))
  clear nw7 nb7 R7 C7 X7 d7 s7 hT5
  have HCL : Hid (∀ y, Below w7.heap.size w7 y → Calls Tryz.prog 54 #[.slice A n9 cp] y fun e w' => ∃ A' c', e = .returned (.slice A' n9 c') ∧ Coin.Own w' y.heap.size (.slice A' n9 c') bs ∧ Below y.heap.size y w') := Lib.hid (fun y hy => clone_any y A n9 cp bs HN9.out (by omega) (aat_rd (HP7.out.below hy)) HP7.out.1)
  have HCR : Hid (∀ y, Below w7.heap.size w7 y → CAtV lo y T7 p q c bA7 bc7 (.slice vA7 c.vols.length vc7) gv7 ∧ Rep y T7 q m7) := Lib.hid (fun y hy => ⟨HS7.out.2.2.1.keep (kp_below hy T7), HS7.out.2.1.below hy⟩)
  go_wp2_with fail
  have HB7 : Hid (Below w7.heap.size w7 w7.drew) := Lib.hid (Below.refl _ _).drew
  have HWD := HB7
  refine wp_region_noPanic ?_
  refine wp_region_held_drew (S := fun y : World => y.heap[hb]? = w7.heap[hb]?) (by kernel_rfl) rfl (fun hHeld => ?_)
  generalize w7.drew = wd at *
  refine wpAnyH_take (i := 0) (oi := ⟨some 74, .move (.tmp 0), 26, "chronicle.go:209", #[], none⟩) (v := .pointer (some ⟨p, 0, none⟩)) rfl (by kernel_rfl) (by kernel_rfl) (by kernel_rfl) (fun _ _ _ h => h) (Or.inl ⟨by rfl, fun w hSw => by go_simp⟩) (by assumption) ?_
  try simp only [Act.put, stA, stB, stC]
  refine wpAnyH_take (i := 1) (oi := ⟨some 75, .move (.tmp 0), 26, "chronicle.go:209", #[⟨8, .gcOnly .lateStores⟩], none⟩) (v := .pointer (some ⟨p, 0, none⟩)) rfl (by kernel_rfl) (by kernel_rfl) (by kernel_rfl) (fun _ _ _ h => h) (Or.inl ⟨by rfl, fun w hSw => by go_simp⟩) (by assumption) ?_
  try simp only [Act.put, stA, stB, stC]
  refine wpAnyH_take (i := 2) (oi := ⟨some 76, .move (.tmp 0), 26, "chronicle.go:209", #[⟨11, .gcOnly .lateStores⟩], none⟩) (v := .pointer (some ⟨p, 0, none⟩)) rfl (by kernel_rfl) (by kernel_rfl) (by kernel_rfl) (fun _ _ _ h => h) (Or.inl ⟨by rfl, fun w hSw => by go_simp⟩) (by assumption) ?_
  try simp only [Act.put, stA, stB, stC]
  refine wpAnyH_take (i := 3) (oi := ⟨some 77, .load 45 (.tmp 9), 45, "chronicle.go:209", #[], none⟩) (v := .agg #[.int .u64 (fno : Int), .int .u64 (hB1 : Int), .int .u64 (u : Int)]) rfl (by kernel_rfl) (by kernel_rfl) (by kernel_rfl) (fun _ _ _ h => h) (Or.inl ⟨by rfl, fun w hSw => by obtain ⟨z0, z1, z2⟩ := three3 (hSw.trans HBX7.out); go_simp⟩) (by assumption) ?_
  try simp only [Act.put, stA, stB, stC]
  refine wpAnyH_take (i := 4) (oi := ⟨some 78, .move (.tmp 2), 30, "chronicle.go:209", #[], none⟩) (v := .slice A n9 cp) rfl (by kernel_rfl) (by kernel_rfl) (by kernel_rfl) (fun _ _ _ h => h) (Or.inl ⟨by rfl, fun w hSw => by go_simp⟩) (by assumption) ?_
  try simp only [Act.put, stA, stB, stC]
  refine wpAnyH_ready (rs := [5]) (by kernel_rfl) (by simp) ?_
  refine AllReadyH.cons (o := ⟨some 79, .call ⟨.value (.func 54), #[.tmp 78], #[30]⟩, 30, "chronicle.go:209", #[⟨4, .data⟩], none⟩) rfl (fun K hK => ?_) AllReadyH.nil
  go_simp
  refine (HCL.out wd HB7.out).mono ?_
  rintro e w8 ⟨Ac, cc, rfl, Oc, B8⟩
  have H8 := Lib.hid (And.intro Oc (HB7.out.trans (B8.mono HB7.out.size)))
  have HS8 := Lib.hid (B8.block hb (Nat.lt_of_lt_of_le HHB.out HB7.out.size))
  clear Oc B8
  obtain ⟨C8, R8⟩ := HCR.out w8 H8.out.2
  have hr8 := C8.row
  have HC8 := Lib.hid (And.intro C8 R8)
  clear C8 R8
  unfold cC at hr8
  obtain ⟨q0, q1, q2, q3, q4, q5, q6, q7, qf⟩ := row8 hr8
  clear hr8 q0 q1 q6
  refine hK.out _ _ (HS8.out.trans hHeld) (fun hHeld => ?_)
  clear hK K
  try simp only [Act.put, stA, stB, stC]
  skip
  refine wpAnyH_take (i := 6) (oi := ⟨some 80, .nilCheck (.tmp 74), 0, "chronicle.go:209", #[⟨0, .data⟩, ⟨0, .phase⟩, ⟨1, .textOnly .lateStores⟩, ⟨2, .textOnly .lateStores⟩, ⟨3, .phase⟩, ⟨4, .textOnly .lateStores⟩, ⟨5, .phase⟩], none⟩) (v := .pointer (some ⟨p, 0, none⟩)) rfl (by kernel_rfl) (by kernel_rfl) (by kernel_rfl) (fun _ _ _ h => h) (Or.inl ⟨by rfl, fun w hSw => by go_simp⟩) (by assumption) ?_
  try simp only [Act.put, stA, stB, stC]
  refine wpAnyH_take (i := 7) (oi := ⟨some 81, .fieldAddr 82 (.tmp 80) 2, 0, "chronicle.go:209", #[⟨6, .data⟩, ⟨0, .phase⟩, ⟨1, .textOnly .lateStores⟩, ⟨2, .textOnly .lateStores⟩, ⟨3, .phase⟩, ⟨4, .textOnly .lateStores⟩, ⟨5, .phase⟩], none⟩) (v := .pointer (some ⟨p, 2, none⟩)) rfl (by kernel_rfl) (by kernel_rfl) (by kernel_rfl) (fun _ _ _ h => h) (Or.inl ⟨by rfl, fun w hSw => by go_simp⟩) (by assumption) ?_
  try simp only [Act.put, stA, stB, stC]
  refine wpAnyH_ready (rs := [8]) (by kernel_rfl) (by simp) ?_
  refine AllReadyH.cons (o := ⟨none, .store 45 (.tmp 81) (.tmp 77), 0, "chronicle.go:209", #[⟨7, .data⟩, ⟨3, .data⟩, ⟨5, .chain⟩, ⟨0, .phase⟩, ⟨1, .textOnly .lateStores⟩, ⟨2, .textOnly .lateStores⟩, ⟨3, .phase⟩, ⟨4, .textOnly .lateStores⟩, ⟨5, .phase⟩], none⟩) rfl (fun K hK => ?_) AllReadyH.nil
  go_simp
  refine hK.out _ _ (((heap_setCell_other _ ⟨p, 4, none⟩ hb _ HNE.out).trans ((heap_setCell_other _ ⟨p, 3, none⟩ hb _ HNE.out).trans (heap_setCell_other _ ⟨p, 2, none⟩ hb _ HNE.out))).trans hHeld) (fun hHeld => ?_)
  clear hK K
  try simp only [Act.put, stA, stB, stC]
  skip
  refine wpAnyH_take (i := 9) (oi := ⟨some 82, .nilCheck (.tmp 75), 0, "chronicle.go:209", #[⟨1, .data⟩, ⟨0, .phase⟩, ⟨1, .phase⟩, ⟨2, .textOnly .lateStores⟩, ⟨3, .phase⟩, ⟨4, .phase⟩, ⟨5, .phase⟩, ⟨6, .phase⟩, ⟨7, .phase⟩, ⟨8, .phase⟩], none⟩) (v := .pointer (some ⟨p, 0, none⟩)) rfl (by kernel_rfl) (by kernel_rfl) (by kernel_rfl) (fun _ _ _ h => h) (Or.inl ⟨by rfl, fun w hSw => by go_simp⟩) (by assumption) ?_
  try simp only [Act.put, stA, stB, stC]
  refine wpAnyH_take (i := 10) (oi := ⟨some 83, .fieldAddr 82 (.tmp 82) 3, 0, "chronicle.go:209", #[⟨9, .data⟩, ⟨0, .phase⟩, ⟨1, .phase⟩, ⟨2, .textOnly .lateStores⟩, ⟨3, .phase⟩, ⟨4, .phase⟩, ⟨5, .phase⟩, ⟨6, .phase⟩, ⟨7, .phase⟩, ⟨8, .phase⟩], none⟩) (v := .pointer (some ⟨p, 5, none⟩)) rfl (by kernel_rfl) (by kernel_rfl) (by kernel_rfl) (fun _ _ _ h => h) (Or.inl ⟨by rfl, fun w hSw => by go_simp⟩) (by assumption) ?_
  try simp only [Act.put, stA, stB, stC]
  refine wpAnyH_ready (rs := [11]) (by kernel_rfl) (by simp) ?_
  refine AllReadyH.cons (o := ⟨none, .store 30 (.tmp 83) (.tmp 79), 0, "chronicle.go:209", #[⟨10, .data⟩, ⟨5, .data⟩, ⟨8, .chain⟩, ⟨0, .phase⟩, ⟨1, .phase⟩, ⟨2, .textOnly .lateStores⟩, ⟨3, .phase⟩, ⟨4, .phase⟩, ⟨5, .phase⟩, ⟨6, .phase⟩, ⟨7, .phase⟩, ⟨8, .phase⟩], none⟩) rfl (fun K hK => ?_) AllReadyH.nil
  go_simp
  refine hK.out _ _ ((heap_setCell_other _ ⟨p, 5, none⟩ hb _ HNE.out).trans hHeld) (fun hHeld => ?_)
  clear hK K
  try simp only [Act.put, stA, stB, stC]
  skip
  refine wpAnyH_take (i := 12) (oi := ⟨some 84, .nilCheck (.tmp 76), 0, "chronicle.go:209", #[⟨2, .data⟩, ⟨0, .phase⟩, ⟨1, .phase⟩, ⟨2, .phase⟩, ⟨3, .phase⟩, ⟨4, .phase⟩, ⟨5, .phase⟩, ⟨6, .phase⟩, ⟨7, .phase⟩, ⟨8, .phase⟩, ⟨9, .phase⟩, ⟨10, .phase⟩, ⟨11, .phase⟩], none⟩) (v := .pointer (some ⟨p, 0, none⟩)) rfl (by kernel_rfl) (by kernel_rfl) (by kernel_rfl) (fun _ _ _ h => h) (Or.inl ⟨by rfl, fun w hSw => by go_simp⟩) (by assumption) ?_
  try simp only [Act.put, stA, stB, stC]
  refine wpAnyH_take (i := 13) (oi := ⟨some 85, .fieldAddr 82 (.tmp 84) 5, 0, "chronicle.go:209", #[⟨12, .data⟩, ⟨0, .phase⟩, ⟨1, .phase⟩, ⟨2, .phase⟩, ⟨3, .phase⟩, ⟨4, .phase⟩, ⟨5, .phase⟩, ⟨6, .phase⟩, ⟨7, .phase⟩, ⟨8, .phase⟩, ⟨9, .phase⟩, ⟨10, .phase⟩, ⟨11, .phase⟩], none⟩) (v := .pointer (some ⟨p, 7, none⟩)) rfl (by kernel_rfl) (by kernel_rfl) (by kernel_rfl) (fun _ _ _ h => h) (Or.inl ⟨by rfl, fun w hSw => by go_simp⟩) (by assumption) ?_
  try simp only [Act.put, stA, stB, stC]
  refine wpAnyH_ready (rs := [14]) (by kernel_rfl) (by simp) ?_
  refine AllReadyH.cons (o := ⟨none, .store 4 (.tmp 85) (.const (.bool false)), 0, "chronicle.go:209", #[⟨13, .data⟩, ⟨11, .chain⟩, ⟨0, .phase⟩, ⟨1, .phase⟩, ⟨2, .phase⟩, ⟨3, .phase⟩, ⟨4, .phase⟩, ⟨5, .phase⟩, ⟨6, .phase⟩, ⟨7, .phase⟩, ⟨8, .phase⟩, ⟨9, .phase⟩, ⟨10, .phase⟩, ⟨11, .phase⟩], none⟩) rfl (fun K hK => ?_) AllReadyH.nil
  go_simp
  refine hK.out _ _ ((heap_setCell_other _ ⟨p, 7, none⟩ hb _ HNE.out).trans hHeld) (fun hHeld => ?_)
  clear hK K
  try simp only [Act.put, stA, stB, stC]
  skip
  refine wpAnyH_done (by kernel_rfl) ?_ _
  try unfold NoPanic
  clear q2 q3 q4 q5 q7 qf HB7 HS8
  have hPc : PAt w8 T7 Ac cc bs := pat_own H8.out.1 (fun b hb9 => rep_old HS7.out.2.1 (Nat.le_trans HWD.out.size hb9)) HN9.out
  have C9 := HC8.out.1.fold fno hB1 u bs Ac cc hPc
  rw [← HN9.out] at C9
  obtain ⟨w9, hw9⟩ : ∃ W, W = (((((w8.setCell ⟨p, 2, none⟩ (.int .u64 (fno : Int))).setCell ⟨p, 3, none⟩ (.int .u64 (hB1 : Int))).setCell ⟨p, 4, none⟩ (.int .u64 (u : Int))).setCell ⟨p, 5, none⟩ (.slice Ac n9 cc)).setCell ⟨p, 7, none⟩ (.bool false)) := ⟨_, rfl⟩
  rw [← hw9] at C9 ⊢
  have G9 : w8.grownBy w9 (some p) := by
    rw [hw9]
    exact ((((Shf.grown_set w8 p 2 _).trans (Shf.grown_set _ p 3 _)).trans (Shf.grown_set _ p 4 _)).trans (Shf.grown_set _ p 5 _)).trans (Shf.grown_set _ p 7 _)
  have HR9 := Lib.hid (rep_box HC8.out.2 G9 HC8.out.1.tp)
  have HKQ9 : Hid (Kq lo w T w9 T7) := Lib.hid ((HKQ7.out.trans (kq_kp (kp_below H8.out.2 T7))).trans (kq_box G9 HC8.out.1.row HC8.out.1.lp))
  have HZ9 : Hid (∀ z, z < w.heap.size → T z = .none → z ≠ p → w9.heap[z]? = w.heap[z]? ∧ z < w8.heap.size) := Lib.hid (fun z hz hT hp => by
    have h1 := HKP7.out.block z hz hT
    have h2 : z < w7.heap.size := Nat.lt_of_lt_of_le hz HKP7.out.size
    have h3 : z < w8.heap.size := Nat.lt_of_lt_of_le h2 H8.out.2.size
    exact ⟨(G9.block z h3 (fun e => hp (by injection e))).trans ((H8.out.2.block z h2).trans h1.1), h3⟩)
  have HG9 := Lib.hid (show w8.heap.size ≤ w9.heap.size from G9.size)
  have HPR := Lib.hid (show w7.heap[p]? = w.heap[p]? from (HKP7.out.block p HPLT.out HPT.out).1)
  have hr9 := C9.row
  have HC9 := Lib.hid C9
  clear hw9 G9 hPc C9
  unfold cC at hr9
  obtain ⟨q0, q1, q2, q3, q4, q5, q6, q7, qf⟩ := row8 hr9
  have hEl2 : E < c.vols.length := by have := HNN.out; omega
  have c63 := delete_vols w9 T7 (.slice vA7 c.vols.length vc7) c.vols gv7 HC9.out.vs (by omega) E hEl2 (fun x hx => hx.form)
  clear hr9 q0 q1 q2 q3 q4 q5 q7 qf
  have HV7 : Hid (c.vols.length ≤ 1000) := Lib.hid (by omega)
  obtain ⟨nv, hnv⟩ : ∃ nv, nv = c.vols.length := ⟨_, rfl⟩
  rw [← hnv] at c63 q6
  have HNV := Lib.hid hnv
  clear hnv
  go_wp2_with fail
  refine c63.mono ?_
  rintro e w10 ⟨v10, rfl, V10, g10, hg10, G10, cur10, hcur10⟩
  obtain ⟨hp10, C11⟩ := HC9.out.dropped G10 hcur10 V10
  obtain ⟨A10, cap10, rfl⟩ := C11.nil
  have hr10 := hp10.trans HC9.out.row
  have hT10 : T7 g10 = .none ∧ lo ≤ g10 := by
    obtain ⟨vs, _, _, h3, _, _, h6, _⟩ := V10
    exact ⟨h3 g10 hg10, h6 g10 hg10⟩
  have HR11 := Lib.hid (rep_box (HR9.out.far (P := fun b => b = g10) ⟨G10.os, G10.tape, G10.output, G10.size, fun b hlt hne => G10.block b hlt (fun e => hne (by injection e))⟩ (fun b hT9 hP => hT9 (by rw [hP]; exact hT10.1))) (Shf.grown_set w10 p 6 (.slice A10 (c.vols.drop E).length cap10)) HC9.out.tp)
  have HKQ11 : Hid (Kq lo w T (w10.setCell ⟨p, 6, none⟩ (.slice A10 (c.vols.drop E).length cap10)) T7) := Lib.hid ((HKQ9.out.trans (kq_vols G10 hcur10 hT10.2)).trans (kq_set hr10 HC9.out.lp 6 _))
  have HZ11 : Hid (∀ z, z < w.heap.size → T z = .none → z ≠ p → z ≠ g10 → (w10.setCell ⟨p, 6, none⟩ (.slice A10 (c.vols.drop E).length cap10)).heap[z]? = w.heap[z]?) := Lib.hid (fun z hz hT hp hg => by
    obtain ⟨h1, h2⟩ := HZ9.out z hz hT hp
    exact (Below.heap_setCell w10 ⟨p, 6, none⟩ _ z hp).trans ((G10.block z (Nat.lt_of_lt_of_le h2 HG9.out) (fun e => hg (by injection e))).trans h1))
  have HGV : Hid (∃ o n k, (.slice vA7 c.vols.length vc7 : Value) = .slice (some ⟨g10, o, none⟩) n k) := Lib.hid (by
    obtain ⟨vs, _, hO, _⟩ := HC9.out.vs
    exact hO.addr hg10)
  have hfc : ({c with hF := fno, hB := hB1, hU := u, base := bs, full := false, vols := c.vols.drop E} : CD) = foldC c u bs := by
    unfold foldC
    rw [← HE.out, HFNO.out, HHB1.out]
  have C12 : CAt lo (w10.setCell ⟨p, 6, none⟩ (.slice A10 (c.vols.drop E).length cap10)) T7 p q (foldC c u bs) := by
    rw [← hfc]
    exact ⟨_, _, _, _, C11⟩
  have HC12 := Lib.hid C12
  unfold cC at hr10
  obtain ⟨q0, q1, q2, q3, q4, q5, q6, q7, qf⟩ := row8 hr10
  clear q0 q1 q2 q3 q4 q5 q7 C11 C12 hr10 V10 G10 hcur10 hg10 hT10 hfc hp10 c63
  obtain ⟨nd, hnd⟩ : ∃ nd, nd = (c.vols.drop E).length := ⟨_, rfl⟩
  rw [← hnd] at HR11 HKQ11 HC12 HZ11 ⊢
  clear hnd
  obtain ⟨w11, hw11⟩ : ∃ W, W = w10.setCell ⟨p, 6, none⟩ (.slice A10 nd cap10) := ⟨_, rfl⟩
  have hN7 := HS7.out.2.2.2.2 _ (HS5.out.2.2.2.2.2 _ (H2.out.2.2.2.2.2.2.2.2 _ HMS.out))
  have hl7 := nms_list hN7
  have c43 := tidy_any (w10.setCell ⟨p, 6, none⟩ (.slice A10 nd cap10)) T7 p q m7 (foldC c u bs) HR11.out HC12.out (fold_small HSM.out u hub bs (by have := HFNO.out; have := HN.out.no; have := HE.out; omega)) (by show c.hB + 1 < 100; omega) (fun d hd => by have := H2.out.1.no_lt HN.out (List.mem_of_mem_drop hd); omega) (by have h1 := H2.out.2.2.2.2.2.2.2.1; have h2 := HS5.out.2.2.2.2.1; have h3 := HS7.out.2.2.2.1; omega) (by omega) hl7.2
  clear hw11 w11 hl7
  go_wp2_with fail
  refine c43.mono ?_
  rintro e w12 ⟨T12, rfl, R12, X12⟩
  obtain ⟨t1, ty⟩ := tidy_gone (own := (foldC c u bs).own) HNW7.out.on HS7.out.2.1.2
  rw [t1]
  have hN7b := hN7.1
  obtain ⟨f1, f2, f3, f4, f5⟩ := H2.out.1.folded H2.out.2.1 HN.out hB u hu (by rw [← HNX.out]; exact hun) bs (by omega) (by rw [← HHB1.out]; exact HNW5.out) (by rw [← HE.out, ← HFNO.out, ← HHB1.out]; exact HNW7.out) ty
  have HF := Lib.hid (And.intro f1 (And.intro f2 (And.intro f3 (And.intro f4 f5))))
  have hdn := ty.done
  have HFIN : Hid (∃ m' T', CG (foldC c u bs) m' ∧ AllSync (foldC c u bs) m' ∧ CN (foldC c u bs) ∧ Rep w12 T' q m' ∧ CAt lo w12 T' p q (foldC c u bs) ∧ Kq lo w T w12 T' ∧ m'.room = m.room ∧ m'.named + m'.gone ≤ m.named + m.gone + bs.length + 100 ∧ m'.done ≤ m.done + 8100 ∧ (∀ z, z < w.heap.size → T z = .none → z ≠ p → (∀ bA bc vv, w.heap[p]? = some (.cells (cC q c bA bc vv) 82 (0, 0)) → ∀ o n c, vv ≠ .slice (some ⟨z, o, none⟩) n c) → w12.heap[z]? = w.heap[z]?)) := Lib.hid ⟨_, T12, f1, f2, f3, R12, HC12.out.keep (kp_ext X12), HKQ11.out.trans (kq_kp (kp_ext X12)), f4.trans H2.out.2.2.2.2.2.1, by
      have h1 := H2.out.2.2.2.2.2.2.1
      have h2 := head_le (c.hF + endL c.vols u) (c.hB + 1) u
      have h3 := HPL.out
      omega, by
      have h1 := H2.out.2.2.2.2.2.2.2.1
      have h2 := HS5.out.2.2.2.2.1
      have h3 := HS7.out.2.2.2.1
      omega, fun z hz hT hp hv => by
      have hg : z ≠ g10 := fun e => by
        obtain ⟨o, n, k, e2⟩ := HGV.out
        subst e
        exact HVV.out z hv bA7 bc7 _ (HPR.out.symm.trans HS7.out.2.2.1.row) o n k e2
      exact ((kp_ext X12).block z (Nat.lt_of_lt_of_le hz HKQ11.out.size) (HKQ11.out.tag z hz hT)).1.trans (HZ11.out z hz hT hp hg)⟩
  clear f1 f2 f3 f4 f5 R12 X12 ty t1 hdn hN7 hN7b HF
  go_wp2
  go_ret
  obtain ⟨m', T', hf⟩ := HFIN.out
  exact ⟨m', T', rfl, hf⟩
end Go.Proofs.YtdbhgkbmbbjpdaaGreatDoor.Chr
