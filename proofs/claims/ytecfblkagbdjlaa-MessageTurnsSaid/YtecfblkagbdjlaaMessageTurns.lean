/-
  'For every input the Go function milestonelaw13.MessageTurns returns true, and each argument reads behind the call as it read before.'
  Conditions: none but the row's own (linux/amd64, sizes of what is read within the address space).
-/
import Derived.Test.YtecfblkagbdjlaaRows
import Derived.WalkKit
import Derived.ProofKit
import Derived.OpenShut
import Derived.ShutString
import Derived.ChangeOld
import Derived.Below
import Derived.Lib.SmallJoins
import Derived.Lib.Hide
import Derived.Test.YtecfblkagbdjlaaMv
import Derived.WalkLawsBesides
import Derived.Deep.RegionHeld3
import Derived.Laws.BitsAllLaws
namespace Go.Proofs.Ytecfblkagbdjlaa.messageTurns
open Go.Proofs.Ytecfblkagbdjlaa.Msg
open Tal (IsRow bytes_of)
open Coin (Own CoinOwn coin)
open Go.ChangeShapes Go.WideShapes Go.ChangeAt Go.RowKit
open Go.ChangeMaps (open_string shut_string)
set_option linter.unusedVariables false

theorem own : ownKnob Try.prog.godebug = none := by kernel_rfl
theorem laidOut : laidOutB Try.prog = true := by kernel_rfl

set_option maxRecDepth 8000
def nrs (l : List Pt) : List Pt := l.map Pt.near
theorem nrs_len (l : List Pt) : (nrs l).length = l.length := by simp [nrs]
theorem nrs_succ (l : List Pt) (j : Nat) (hj : j < l.length) : nrs (l.take (j + 1)) = nrs (l.take j) ++ [l[j].near] := by
  unfold nrs
  rw [List.take_succ_eq_append_getElem hj, List.map_append]
  rfl
theorem nrs_fits {l : List Pt} (h : ∀ x ∈ l, x.Fits) : ∀ x ∈ nrs l, x.Fits := fun x hx => by
  obtain ⟨y, hy, rfl⟩ := List.mem_map.1 hx
  exact near_fits (h y hy)
theorem nrs_rt (l : List Pt) : ∀ x ∈ nrs l, x.rt = true := fun x hx => by
  obtain ⟨y, hy, rfl⟩ := List.mem_map.1 hx
  exact near_rt y
theorem enc_nrs (f : Nat) (l : List Pt) (hl : l.length ≤ 300) : enc f (nrs l) = sealB ([1] ++ coin f ++ (nrs l).flatMap Pt.bytes) := by
  unfold enc encB
  rw [kept_all (nrs l) (nrs_rt l) (by rw [nrs_len]; exact hl)]
  rfl
theorem dec_nrs (f : Nat) (hf : f < 16) (l : List Pt) (hl : l.length ≤ 300) (h : ∀ x ∈ l, x.Fits) : dec (enc f (nrs l)) = (0, f, nrs l, 0) := by
  rw [dec_enc f hf (nrs l) (nrs_fits h), kept_all (nrs l) (nrs_rt l) (by rw [nrs_len]; exact hl)]

theorem start0 (f : Nat) (w1 : World) : Ms f w1 (w1.alloc (.cells #[.int .i64 (f : Int), .slice none 0 0] 34)) (.slice none 0 0) (.slice none 0 0) [] [] :=
  ⟨(Below.refl _ _).alloc (Nat.le_refl _) _, heap_alloc_new w1 _, PtOwn.nil _ _, Own.nil _ _⟩
theorem dec_weak (A : Option Addr) (m cap : Nat) (l : List UInt8) (w : World) (hm : m = l.length) (hl : m ≤ 90000) (hr : Coin.Rd w w.heap.size A l) (hc : m ≤ cap) (hA : A = none → cap = 0) :
    Calls Try.prog 16 #[.slice A m cap] w fun e w' => ∃ (x u n : Nat) (A' : Option Addr) (c' : Nat), e = .returned (.tuple #[.agg #[.int .i64 (x : Int), .slice A' n c'], .int .i64 (u : Int), .int .i64 ((dec l).1 : Int)]) ∧ Below w.heap.size w w' :=
  (dec_any A m cap l w hm hl hr hc hA).mono fun e w' ⟨A', c', h1, h2, h3⟩ => ⟨_, _, _, A', c', h1, h3⟩
theorem sums_ok (l : List UInt8) (h : (dec l).1 = 0) : sumsP l = true := by
  obtain ⟨h1, h2⟩ := dec_sums l h
  unfold sumsP
  rw [h2]
  simp [h1]

set_option maxHeartbeats 4000000 in
theorem walk (a0 : Int) (a1 : Option Addr) (len1 cap1 : Nat) (z1 : List ActD) (a2 : Int) (a3 : Int) (a4 : Int) (a5 : Option Addr) (len5 cap5 : Nat) (z5 : List Int) (w : World) (w0 : (Lit.int .u8 a0).wf = true) (w1 : IsActs w a1 len1 cap1 z1) (w2 : (Lit.int .u16 a2).wf = true) (w3 : (Lit.int .u8 a3).wf = true) (w4 : (Lit.int .u16 a4).wf = true) (w5 : IsRow .u8 w a5 len5 cap5 z5) :
    Calls Try.prog 5 #[.int .u8 a0, .slice a1 len1 cap1, .int .u16 a2, .int .u8 a3, .int .u16 a4, .slice a5 len5 cap5] w fun e w' => e = .returned (.bool true) ∧ Below w.heap.size w w' := by
  have b0 := bounds_u8 w0
  have b2 := bounds_u16 w2
  have b3 := bounds_u8 w3
  have b4 := bounds_u16 w4
  obtain ⟨fr, rfl⟩ := Int.eq_ofNat_of_zero_le b0.1
  obtain ⟨at_, rfl⟩ := Int.eq_ofNat_of_zero_le b2.1
  obtain ⟨turn, rfl⟩ := Int.eq_ofNat_of_zero_le b3.1
  obtain ⟨cut, rfl⟩ := Int.eq_ofNat_of_zero_le b4.1
  obtain ⟨hl1, hl2, hl3, hps, hfit, hcap⟩ := w1
  obtain ⟨J, hj1, hj2, hj3, RJ, hjn⟩ := bytes_of w5
  have RJ : Coin.Rd w w.heap.size a5 J := RJ
  have hat : at_ < 65536 := by omega
  have htn : turn < 256 := by omega
  have hct : cut < 65536 := by omega
  by_cases hbig : 20 < len1 ∨ 100 < len5
  · have hb1 : 20 < len1 ∨ ((¬ (20 : Int) < (len1 : Int)) ∧ (100 : Int) < (len5 : Int)) := by omega
    clear hl1 hl2 hl3 hps hfit hcap hj1 hj2 hj3 RJ hjn hat htn hct b0 b2 b3 b4 w0 w2 w3 w4 w5 hbig
    rcases hb1 with h20 | ⟨h20, h100⟩
    · have h20' : (20 : Int) < (len1 : Int) := by omega
      go_enter Try.func5, Try.ntmps5
      go_upto_region 2 with (go_at_call 12; (with_reducible refine (awake_any _).mono ?_); (rintro e w1 ⟨rfl, B1⟩; have HB1 := Lib.hid B1; clear B1))
      go_wp2_with (go_at_call 12; (with_reducible refine (awake_any _).mono ?_); (rintro e w2 ⟨rfl, B2⟩; have HB2 := Lib.hid (HB1.out.trans (B2.mono HB1.out.size)); clear B2))
      go_ret
      exact ⟨rfl, HB2.out⟩
    · go_enter Try.func5, Try.ntmps5
      go_upto_region 2 with (go_at_call 12; (with_reducible refine (awake_any _).mono ?_); (rintro e w1 ⟨rfl, B1⟩; have HB1 := Lib.hid B1; clear B1))
      go_wp2_with (go_at_call 12; (with_reducible refine (awake_any _).mono ?_); (rintro e w2 ⟨rfl, B2⟩; have HB2 := Lib.hid (HB1.out.trans (B2.mono HB1.out.size)); clear B2))
      go_ret
      exact ⟨rfl, HB2.out⟩
  · have h20' : ¬ (20 : Int) < (len1 : Int) := by omega
    have h100' : ¬ (100 : Int) < (len5 : Int) := by omega
    have h20n : len1 ≤ 20 := by omega
    have h100n : len5 ≤ 100 := by omega
    obtain ⟨f, hf⟩ : ∃ f, f = fr % 16 := ⟨_, rfl⟩
    have hf16 : f < 16 := by omega
    have hm1 : (fr : Int).tmod 16 = (f : Int) := by rw [Int.tmod_eq_emod_of_nonneg (by omega)]; omega
    have hw1 : IntKind.u8.wrap (f : Int) = f := by rw [IntKind.wrap_u8]; omega
    have hw2 : IntKind.i64.wrap (f : Int) = f := by rw [IntKind.wrap_i64]; omega
    have hwa : IntKind.i64.wrap (at_ : Int) = at_ := by rw [IntKind.wrap_i64]; omega
    have hwc : IntKind.i64.wrap (cut : Int) = cut := by rw [IntKind.wrap_i64]; omega
    have HZ := Lib.hid (And.intro hl1 (And.intro hps (And.intro hfit hcap)))
    have HJ := Lib.hid (And.intro hj1 (And.intro hj3 (And.intro RJ hjn)))
    clear hl1 hps hfit hcap hf b0 b2 b3 b4 w0 w2 w3 w4 w5 hbig hj1 hj2 hj3 RJ hjn
    go_enter Try.func5, Try.ntmps5
    go_upto_region 3 with (go_at_call 12; (with_reducible refine (awake_any _).mono ?_); (rintro e w1 ⟨rfl, B1⟩; have HB1 := Lib.hid B1; clear B1))
    have HM0 := Lib.hid (start0 f w1)
    go_upto_region 4 with (fail)
    generalize w1.alloc _ = wa at *
    go_wp2
    go_loopw [14] (fun i wr => ∃ j : Nat, j ≤ len1 ∧ i = .int .i64 j ∧ ∃ vp, Hid (Ms f w1 wr vp (.slice none 0 0) (nrs (z1.take j)) [])) (fun i _ => len1 - (intOf i).toNat)
    case atStart => exact ⟨0, by omega, rfl, _, HM0⟩
    case round =>
      obtain ⟨j, hj, rfl, vp, HM⟩ := hrel
      clear HM0
      by_cases hlt : j < len1
      · obtain ⟨Ap, cp, hvp, -⟩ := HM.out.po.form
        have hjl : j < z1.length := by rw [← HZ.out.1]; exact hlt
        have hns := nrs_succ z1 j hjl
        obtain ⟨bb, oo, ea, hbb, hc0⟩ := HZ.out.2.1 j hjl
        subst ea
        have hxf := HZ.out.2.2.1 _ (List.getElem_mem hjl)
        have hne := fun W => near_any z1[j] hxf W
        generalize z1[j].near = y at *
        generalize z1[j] = x at *
        have HNe : Hid (∀ W, Calls Try.prog 8 #[.agg #[.int .u8 (x.K : Int), .int .u64 (x.N : Int), .int .i64 x.Nd, .int .u32 (x.A : Int), .int .u8 (x.L : Int), .int .u16 (x.Sq : Int), .int .u16 (x.M : Int)]] W fun e w' => e = .returned (.agg #[.int .u8 (y.K : Int), .int .u64 (y.N : Int), .int .i64 y.Nd, .int .u32 (y.A : Int), .int .u8 (y.L : Int), .int .u16 (y.Sq : Int), .int .u16 (y.M : Int)]) ∧ Below W.heap.size W w') := hne
        have HPA : Hid (∀ W, Below w.heap.size w W → PAt W bb (oo + j * 7) x) := fun W h => hc0.keep (h.block bb hbb)
        have hxl : (nrs (z1.take j)).length ≤ 30 := by rw [nrs_len, List.length_take]; omega
        have HNX := Lib.hid hns
        generalize hxs : nrs (z1.take j) = xs at *
        obtain ⟨np, hnp⟩ : ∃ np, np = xs.length := ⟨_, rfl⟩
        rw [← hnp] at hvp
        have HXS := Lib.hid hxl
        clear hne hc0 hxl hns hxf hjl hnp hbb hxs
        subst hvp
        go_upto_region 7 with (fail)
        refine wp_region_noPanic ?_
        refine wp_region_held_drew (S := fun W : World => Below w.heap.size w W) (by kernel_rfl) ((HB1.out.trans (HM.out.bl.mono HB1.out.size)).drew) (fun hHeld => ?_)
        replace HM := Lib.hid (HM.out.step (Below.refl wr.heap.size wr).drew)
        generalize wr.drew = wd at *
        refine wpAnyH_take (i := 0) (oi := { dst := some 51, op := Op.fieldAddr 34 (Operand.tmp 13) 1, type := 0, pos := "law.go:142", after := #[], guard := none }) (v := .pointer (some ⟨w1.heap.size, 1, none⟩)) rfl (by kernel_rfl) (by kernel_rfl) (by kernel_rfl) (fun _ _ _ h => h) (Or.inl ⟨by rfl, fun w hSw => by go_simp⟩) (by assumption) ?_
        try simp only [Act.put, List.setIfInBounds_toArray, List.set_cons_zero, List.set_cons_succ]
        refine wpAnyH_take (i := 2) (oi := { dst := some 53, op := Op.move (Operand.tmp 1), type := 32, pos := "law.go:142", after := #[], guard := none }) (v := .slice (some ⟨bb, oo, none⟩) len1 cap1) rfl (by kernel_rfl) (by kernel_rfl) (by kernel_rfl) (fun _ _ _ h => h) (Or.inl ⟨by rfl, fun w hSw => by go_simp⟩) (by assumption) ?_
        try simp only [Act.put, List.setIfInBounds_toArray, List.set_cons_zero, List.set_cons_succ]
        refine wpAnyH_take (i := 3) (oi := { dst := some 54, op := Op.move (Operand.tmp 14), type := 3, pos := "law.go:142", after := #[], guard := none }) (v := .int .i64 (j : Int)) rfl (by kernel_rfl) (by kernel_rfl) (by kernel_rfl) (fun _ _ _ h => h) (Or.inl ⟨by rfl, fun w hSw => by go_simp⟩) (by assumption) ?_
        try simp only [Act.put, List.setIfInBounds_toArray, List.set_cons_zero, List.set_cons_succ]
        refine wpAnyH_take (i := 4) (oi := { dst := some 55, op := Op.indexAddr 32 (Operand.tmp 53) (Operand.tmp 54), type := 0, pos := "law.go:142", after := #[{ on := 2, ground := Ground.data }, { on := 3, ground := Ground.data }], guard := none }) (v := .pointer (some ⟨bb, oo + j * 7, none⟩)) rfl (by kernel_rfl) (by kernel_rfl) (by kernel_rfl) (fun _ _ _ h => h) (Or.inl ⟨by rfl, fun w hSw => by go_simp⟩) (by assumption) ?_
        try simp only [Act.put, List.setIfInBounds_toArray, List.set_cons_zero, List.set_cons_succ]
        refine wpAnyH_take (i := 5) (oi := { dst := some 56, op := Op.load 28 (Operand.tmp 55), type := 28, pos := "law.go:142", after := #[{ on := 4, ground := Ground.data }], guard := none }) (v := .agg #[.int .u8 (x.K : Int), .int .u64 (x.N : Int), .int .i64 x.Nd, .int .u32 (x.A : Int), .int .u8 (x.L : Int), .int .u16 (x.Sq : Int), .int .u16 (x.M : Int)]) rfl (by kernel_rfl) (by kernel_rfl) (by kernel_rfl) (fun _ _ _ h => h) (Or.inl ⟨by rfl, fun w hSw => by obtain ⟨k0, k1, k2, k3, k4, k5, k6⟩ := HPA.out _ hSw; go_simp⟩) (by assumption) ?_
        try simp only [Act.put, List.setIfInBounds_toArray, List.set_cons_zero, List.set_cons_succ]
        refine wpAnyH_ready (rs := [1, 6]) (by kernel_rfl) (by simp) ?_
        refine (AllReadyH.cons (o := { dst := some 52, op := Op.load 32 (Operand.tmp 51), type := 32, pos := "law.go:142", after := #[{ on := 0, ground := Ground.data }], guard := none }) rfl (fun K hK => ?_) (AllReadyH.cons (o := { dst := some 57, op := Op.call { callee := Callee.value (Operand.func 8), args := #[Operand.tmp 56], argTypes := #[28] }, type := 28, pos := "law.go:142", after := #[{ on := 5, ground := Ground.data }], guard := none }) rfl (fun K hK => ?_) AllReadyH.nil))
        · obtain ⟨⟨q0, q1⟩, -, -⟩ := row2b HM.out.row
          go_simp
          refine hK.out _ _ (hHeld) (fun hHeld => ?_)
          clear hK K
          try simp only [Act.put, List.setIfInBounds_toArray, List.set_cons_zero, List.set_cons_succ]
          clear q0 q1
          refine wpAnyH_ready (rs := [6]) (by kernel_rfl) (by simp) ?_
          refine AllReadyH.cons (o := { dst := some 57, op := Op.call { callee := Callee.value (Operand.func 8), args := #[Operand.tmp 56], argTypes := #[28] }, type := 28, pos := "law.go:142", after := #[{ on := 5, ground := Ground.data }], guard := none }) rfl (fun K hK => ?_) AllReadyH.nil
          go_simp
          with_reducible refine (HNe.out _).mono ?_
          rintro e wd ⟨rfl, B6⟩
          have hb := hHeld.trans (B6.mono hHeld.size)
          replace HM := Lib.hid (HM.out.step B6)
          clear B6
          refine hK.out _ _ (hb) (fun hHeld => ?_)
          clear hK K
          try simp only [Act.put, List.setIfInBounds_toArray, List.set_cons_zero, List.set_cons_succ]
          clear hb
          refine wpAnyH_ready (rs := [7]) (by kernel_rfl) (by simp) ?_
          refine AllReadyH.cons (o := { dst := some 58, op := Op.buildSlice 32 1 #[(0, Operand.tmp 57)], type := 32, pos := "law.go:142", after := #[{ on := 6, ground := Ground.data }], guard := none }) rfl (fun K hK => ?_) AllReadyH.nil
          go_simp
          have B7 := (Below.refl wd.heap.size wd).alloc (Nat.le_refl _) (.cells #[.int .u8 (y.K : Int), .int .u64 (y.N : Int), .int .i64 y.Nd, .int .u32 (y.A : Int), .int .u8 (y.L : Int), .int .u16 (y.Sq : Int), .int .u16 (y.M : Int)] 28)
          have hcp := cells_pt wd y wd.heap.size rfl #[.int .u8 (y.K : Int), .int .u64 (y.N : Int), .int .i64 y.Nd, .int .u32 (y.A : Int), .int .u8 (y.L : Int), .int .u16 (y.Sq : Int), .int .u16 (y.M : Int)] rfl
          have hb := hHeld.trans (B7.mono hHeld.size)
          replace HM := Lib.hid (HM.out.step B7)
          obtain ⟨vb, hvb⟩ : ∃ vb, vb = wd.heap.size := ⟨_, rfl⟩
          rw [← hvb] at hcp ⊢
          have HCP := Lib.hid hcp
          clear hvb hcp B7
          generalize wd.alloc _ = wd at *
          refine hK.out _ _ (hb) (fun hHeld => ?_)
          clear hK K
          try simp only [Act.put, List.setIfInBounds_toArray, List.set_cons_zero, List.set_cons_succ]
          clear hb
          refine wpAnyH_ready (rs := [8]) (by kernel_rfl) (by simp) ?_
          refine AllReadyH.cons (o := { dst := some 59, op := Op.call { callee := Callee.builtin Builtin.append, args := #[Operand.tmp 52, Operand.tmp 58], argTypes := #[32, 32] }, type := 32, pos := "law.go:142", after := #[{ on := 1, ground := Ground.data }, { on := 7, ground := Ground.data }, { on := 6, ground := Ground.chain }], guard := none }) rfl (fun K hK => ?_) AllReadyH.nil
          obtain ⟨v8, w8, hrun, O8, G8⟩ := app_pt_run (w := wd) (w1.heap.size + 1) (.slice Ap np cp) xs y vb HM.out.po HCP.out (by have := HXS.out; omega) HM.out.lt
          refine Lib.wp_append_run _ (.tmp 52) (.tmp 58) 32 32 rfl _ _ rfl rfl _ _ hrun ?_
          have hb8 := hHeld.grown G8 hHeld.size (fun k h => by have := (HM.out.po.lt k h).1; have := HB1.out.size; omega)
          have hr8 := (G8.block _ HM.out.lt (fun e => by have := (HM.out.po.lt _ e.symm).1; omega)).trans HM.out.row
          have HM8 := Lib.hid (HM.out.part O8 G8)
          obtain ⟨A8, c8, hv8, -⟩ := O8.form
          obtain ⟨n8, hn8⟩ : ∃ n8, n8 = (xs ++ [y]).length := ⟨_, rfl⟩
          rw [← hn8] at hv8
          subst hv8
          have HN8 := Lib.hid hn8
          refine hK.out _ _ hb8 (fun hHeld => ?_)
          clear hK K hn8 hb8 hrun O8 G8
          try simp only [Act.put, List.setIfInBounds_toArray, List.set_cons_zero, List.set_cons_succ]
          refine wpAnyH_take (i := 9) (oi := { dst := some 60, op := Op.fieldAddr 34 (Operand.tmp 13) 1, type := 0, pos := "law.go:142", after := #[{ on := 0, ground := Ground.phase }, { on := 1, ground := Ground.phase }, { on := 2, ground := Ground.phase }, { on := 3, ground := Ground.phase }, { on := 4, ground := Ground.phase }, { on := 5, ground := Ground.phase }, { on := 6, ground := Ground.phase }, { on := 7, ground := Ground.phase }, { on := 8, ground := Ground.phase }], guard := none }) (v := .pointer (some ⟨w1.heap.size, 1, none⟩)) rfl (by kernel_rfl) (by kernel_rfl) (by kernel_rfl) (fun _ _ _ h => h) (Or.inl ⟨by rfl, fun w hSw => by go_simp⟩) (by assumption) ?_
          try simp only [Act.put, List.setIfInBounds_toArray, List.set_cons_zero, List.set_cons_succ]
          refine wpAnyH_ready (rs := [10]) (by kernel_rfl) (by simp) ?_
          refine AllReadyH.cons (o := { dst := none, op := Op.store 32 (Operand.tmp 60) (Operand.tmp 59), type := 0, pos := "law.go:142", after := #[{ on := 9, ground := Ground.data }, { on := 8, ground := Ground.data }, { on := 8, ground := Ground.chain }, { on := 0, ground := Ground.phase }, { on := 1, ground := Ground.phase }, { on := 2, ground := Ground.phase }, { on := 3, ground := Ground.phase }, { on := 4, ground := Ground.phase }, { on := 5, ground := Ground.phase }, { on := 6, ground := Ground.phase }, { on := 7, ground := Ground.phase }, { on := 8, ground := Ground.phase }], guard := none }) rfl (fun K hK => ?_) AllReadyH.nil
          obtain ⟨⟨g0, g1⟩, f5, f6⟩ := row2b hr8
          have e8 : w1.heap.size < w8.heap.size := (Array.getElem?_eq_some_iff.1 hr8).1
          go_simp
          refine hK.out _ _ ((hHeld.setCell (p := ⟨w1.heap.size, 1, none⟩) HB1.out.size _)) (fun hHeld => ?_)
          clear hK K
          try simp only [Act.put, List.setIfInBounds_toArray, List.set_cons_zero, List.set_cons_succ]
          clear g0 g1 f5 f6 e8 hr8
          clear hHeld HM
          replace HM8 := HM8
          refine wpAnyH_done (by kernel_rfl) ?_ _
          try unfold NoPanic
          generalize World.setCell _ _ _ = w9 at *
          go_wp2
          go_roundw
          case rel =>
            have h := HM8.out
            rw [← HNX.out] at h
            exact ⟨j + 1, by omega, by go_num, _, h⟩
          case measure => simp [intOf]; omega
        · go_simp
          with_reducible refine (HNe.out _).mono ?_
          rintro e wd ⟨rfl, B6⟩
          have hb := hHeld.trans (B6.mono hHeld.size)
          replace HM := Lib.hid (HM.out.step B6)
          clear B6
          refine hK.out _ _ (hb) (fun hHeld => ?_)
          clear hK K
          try simp only [Act.put, List.setIfInBounds_toArray, List.set_cons_zero, List.set_cons_succ]
          clear hb
          refine wpAnyH_ready (rs := [1, 7]) (by kernel_rfl) (by simp) ?_
          refine (AllReadyH.cons (o := { dst := some 52, op := Op.load 32 (Operand.tmp 51), type := 32, pos := "law.go:142", after := #[{ on := 0, ground := Ground.data }], guard := none }) rfl (fun K hK => ?_) (AllReadyH.cons (o := { dst := some 58, op := Op.buildSlice 32 1 #[(0, Operand.tmp 57)], type := 32, pos := "law.go:142", after := #[{ on := 6, ground := Ground.data }], guard := none }) rfl (fun K hK => ?_) AllReadyH.nil))
          · obtain ⟨⟨q0, q1⟩, -, -⟩ := row2b HM.out.row
            go_simp
            refine hK.out _ _ (hHeld) (fun hHeld => ?_)
            clear hK K
            try simp only [Act.put, List.setIfInBounds_toArray, List.set_cons_zero, List.set_cons_succ]
            clear q0 q1
            refine wpAnyH_ready (rs := [7]) (by kernel_rfl) (by simp) ?_
            refine AllReadyH.cons (o := { dst := some 58, op := Op.buildSlice 32 1 #[(0, Operand.tmp 57)], type := 32, pos := "law.go:142", after := #[{ on := 6, ground := Ground.data }], guard := none }) rfl (fun K hK => ?_) AllReadyH.nil
            go_simp
            have B7 := (Below.refl wd.heap.size wd).alloc (Nat.le_refl _) (.cells #[.int .u8 (y.K : Int), .int .u64 (y.N : Int), .int .i64 y.Nd, .int .u32 (y.A : Int), .int .u8 (y.L : Int), .int .u16 (y.Sq : Int), .int .u16 (y.M : Int)] 28)
            have hcp := cells_pt wd y wd.heap.size rfl #[.int .u8 (y.K : Int), .int .u64 (y.N : Int), .int .i64 y.Nd, .int .u32 (y.A : Int), .int .u8 (y.L : Int), .int .u16 (y.Sq : Int), .int .u16 (y.M : Int)] rfl
            have hb := hHeld.trans (B7.mono hHeld.size)
            replace HM := Lib.hid (HM.out.step B7)
            obtain ⟨vb, hvb⟩ : ∃ vb, vb = wd.heap.size := ⟨_, rfl⟩
            rw [← hvb] at hcp ⊢
            have HCP := Lib.hid hcp
            clear hvb hcp B7
            generalize wd.alloc _ = wd at *
            refine hK.out _ _ (hb) (fun hHeld => ?_)
            clear hK K
            try simp only [Act.put, List.setIfInBounds_toArray, List.set_cons_zero, List.set_cons_succ]
            clear hb
            refine wpAnyH_ready (rs := [8]) (by kernel_rfl) (by simp) ?_
            refine AllReadyH.cons (o := { dst := some 59, op := Op.call { callee := Callee.builtin Builtin.append, args := #[Operand.tmp 52, Operand.tmp 58], argTypes := #[32, 32] }, type := 32, pos := "law.go:142", after := #[{ on := 1, ground := Ground.data }, { on := 7, ground := Ground.data }, { on := 6, ground := Ground.chain }], guard := none }) rfl (fun K hK => ?_) AllReadyH.nil
            obtain ⟨v8, w8, hrun, O8, G8⟩ := app_pt_run (w := wd) (w1.heap.size + 1) (.slice Ap np cp) xs y vb HM.out.po HCP.out (by have := HXS.out; omega) HM.out.lt
            refine Lib.wp_append_run _ (.tmp 52) (.tmp 58) 32 32 rfl _ _ rfl rfl _ _ hrun ?_
            have hb8 := hHeld.grown G8 hHeld.size (fun k h => by have := (HM.out.po.lt k h).1; have := HB1.out.size; omega)
            have hr8 := (G8.block _ HM.out.lt (fun e => by have := (HM.out.po.lt _ e.symm).1; omega)).trans HM.out.row
            have HM8 := Lib.hid (HM.out.part O8 G8)
            obtain ⟨A8, c8, hv8, -⟩ := O8.form
            obtain ⟨n8, hn8⟩ : ∃ n8, n8 = (xs ++ [y]).length := ⟨_, rfl⟩
            rw [← hn8] at hv8
            subst hv8
            have HN8 := Lib.hid hn8
            refine hK.out _ _ hb8 (fun hHeld => ?_)
            clear hK K hn8 hb8 hrun O8 G8
            try simp only [Act.put, List.setIfInBounds_toArray, List.set_cons_zero, List.set_cons_succ]
            refine wpAnyH_take (i := 9) (oi := { dst := some 60, op := Op.fieldAddr 34 (Operand.tmp 13) 1, type := 0, pos := "law.go:142", after := #[{ on := 0, ground := Ground.phase }, { on := 1, ground := Ground.phase }, { on := 2, ground := Ground.phase }, { on := 3, ground := Ground.phase }, { on := 4, ground := Ground.phase }, { on := 5, ground := Ground.phase }, { on := 6, ground := Ground.phase }, { on := 7, ground := Ground.phase }, { on := 8, ground := Ground.phase }], guard := none }) (v := .pointer (some ⟨w1.heap.size, 1, none⟩)) rfl (by kernel_rfl) (by kernel_rfl) (by kernel_rfl) (fun _ _ _ h => h) (Or.inl ⟨by rfl, fun w hSw => by go_simp⟩) (by assumption) ?_
            try simp only [Act.put, List.setIfInBounds_toArray, List.set_cons_zero, List.set_cons_succ]
            refine wpAnyH_ready (rs := [10]) (by kernel_rfl) (by simp) ?_
            refine AllReadyH.cons (o := { dst := none, op := Op.store 32 (Operand.tmp 60) (Operand.tmp 59), type := 0, pos := "law.go:142", after := #[{ on := 9, ground := Ground.data }, { on := 8, ground := Ground.data }, { on := 8, ground := Ground.chain }, { on := 0, ground := Ground.phase }, { on := 1, ground := Ground.phase }, { on := 2, ground := Ground.phase }, { on := 3, ground := Ground.phase }, { on := 4, ground := Ground.phase }, { on := 5, ground := Ground.phase }, { on := 6, ground := Ground.phase }, { on := 7, ground := Ground.phase }, { on := 8, ground := Ground.phase }], guard := none }) rfl (fun K hK => ?_) AllReadyH.nil
            obtain ⟨⟨g0, g1⟩, f5, f6⟩ := row2b hr8
            have e8 : w1.heap.size < w8.heap.size := (Array.getElem?_eq_some_iff.1 hr8).1
            go_simp
            refine hK.out _ _ ((hHeld.setCell (p := ⟨w1.heap.size, 1, none⟩) HB1.out.size _)) (fun hHeld => ?_)
            clear hK K
            try simp only [Act.put, List.setIfInBounds_toArray, List.set_cons_zero, List.set_cons_succ]
            clear g0 g1 f5 f6 e8 hr8
            clear hHeld HM
            replace HM8 := HM8
            refine wpAnyH_done (by kernel_rfl) ?_ _
            try unfold NoPanic
            generalize World.setCell _ _ _ = w9 at *
            go_wp2
            go_roundw
            case rel =>
              have h := HM8.out
              rw [← HNX.out] at h
              exact ⟨j + 1, by omega, by go_num, _, h⟩
            case measure => simp [intOf]; omega
          · go_simp
            have B7 := (Below.refl wd.heap.size wd).alloc (Nat.le_refl _) (.cells #[.int .u8 (y.K : Int), .int .u64 (y.N : Int), .int .i64 y.Nd, .int .u32 (y.A : Int), .int .u8 (y.L : Int), .int .u16 (y.Sq : Int), .int .u16 (y.M : Int)] 28)
            have hcp := cells_pt wd y wd.heap.size rfl #[.int .u8 (y.K : Int), .int .u64 (y.N : Int), .int .i64 y.Nd, .int .u32 (y.A : Int), .int .u8 (y.L : Int), .int .u16 (y.Sq : Int), .int .u16 (y.M : Int)] rfl
            have hb := hHeld.trans (B7.mono hHeld.size)
            replace HM := Lib.hid (HM.out.step B7)
            obtain ⟨vb, hvb⟩ : ∃ vb, vb = wd.heap.size := ⟨_, rfl⟩
            rw [← hvb] at hcp ⊢
            have HCP := Lib.hid hcp
            clear hvb hcp B7
            generalize wd.alloc _ = wd at *
            refine hK.out _ _ (hb) (fun hHeld => ?_)
            clear hK K
            try simp only [Act.put, List.setIfInBounds_toArray, List.set_cons_zero, List.set_cons_succ]
            clear hb
            refine wpAnyH_ready (rs := [1]) (by kernel_rfl) (by simp) ?_
            refine AllReadyH.cons (o := { dst := some 52, op := Op.load 32 (Operand.tmp 51), type := 32, pos := "law.go:142", after := #[{ on := 0, ground := Ground.data }], guard := none }) rfl (fun K hK => ?_) AllReadyH.nil
            obtain ⟨⟨q0, q1⟩, -, -⟩ := row2b HM.out.row
            go_simp
            refine hK.out _ _ (hHeld) (fun hHeld => ?_)
            clear hK K
            try simp only [Act.put, List.setIfInBounds_toArray, List.set_cons_zero, List.set_cons_succ]
            clear q0 q1
            refine wpAnyH_ready (rs := [8]) (by kernel_rfl) (by simp) ?_
            refine AllReadyH.cons (o := { dst := some 59, op := Op.call { callee := Callee.builtin Builtin.append, args := #[Operand.tmp 52, Operand.tmp 58], argTypes := #[32, 32] }, type := 32, pos := "law.go:142", after := #[{ on := 1, ground := Ground.data }, { on := 7, ground := Ground.data }, { on := 6, ground := Ground.chain }], guard := none }) rfl (fun K hK => ?_) AllReadyH.nil
            obtain ⟨v8, w8, hrun, O8, G8⟩ := app_pt_run (w := wd) (w1.heap.size + 1) (.slice Ap np cp) xs y vb HM.out.po HCP.out (by have := HXS.out; omega) HM.out.lt
            refine Lib.wp_append_run _ (.tmp 52) (.tmp 58) 32 32 rfl _ _ rfl rfl _ _ hrun ?_
            have hb8 := hHeld.grown G8 hHeld.size (fun k h => by have := (HM.out.po.lt k h).1; have := HB1.out.size; omega)
            have hr8 := (G8.block _ HM.out.lt (fun e => by have := (HM.out.po.lt _ e.symm).1; omega)).trans HM.out.row
            have HM8 := Lib.hid (HM.out.part O8 G8)
            obtain ⟨A8, c8, hv8, -⟩ := O8.form
            obtain ⟨n8, hn8⟩ : ∃ n8, n8 = (xs ++ [y]).length := ⟨_, rfl⟩
            rw [← hn8] at hv8
            subst hv8
            have HN8 := Lib.hid hn8
            refine hK.out _ _ hb8 (fun hHeld => ?_)
            clear hK K hn8 hb8 hrun O8 G8
            try simp only [Act.put, List.setIfInBounds_toArray, List.set_cons_zero, List.set_cons_succ]
            refine wpAnyH_take (i := 9) (oi := { dst := some 60, op := Op.fieldAddr 34 (Operand.tmp 13) 1, type := 0, pos := "law.go:142", after := #[{ on := 0, ground := Ground.phase }, { on := 1, ground := Ground.phase }, { on := 2, ground := Ground.phase }, { on := 3, ground := Ground.phase }, { on := 4, ground := Ground.phase }, { on := 5, ground := Ground.phase }, { on := 6, ground := Ground.phase }, { on := 7, ground := Ground.phase }, { on := 8, ground := Ground.phase }], guard := none }) (v := .pointer (some ⟨w1.heap.size, 1, none⟩)) rfl (by kernel_rfl) (by kernel_rfl) (by kernel_rfl) (fun _ _ _ h => h) (Or.inl ⟨by rfl, fun w hSw => by go_simp⟩) (by assumption) ?_
            try simp only [Act.put, List.setIfInBounds_toArray, List.set_cons_zero, List.set_cons_succ]
            refine wpAnyH_ready (rs := [10]) (by kernel_rfl) (by simp) ?_
            refine AllReadyH.cons (o := { dst := none, op := Op.store 32 (Operand.tmp 60) (Operand.tmp 59), type := 0, pos := "law.go:142", after := #[{ on := 9, ground := Ground.data }, { on := 8, ground := Ground.data }, { on := 8, ground := Ground.chain }, { on := 0, ground := Ground.phase }, { on := 1, ground := Ground.phase }, { on := 2, ground := Ground.phase }, { on := 3, ground := Ground.phase }, { on := 4, ground := Ground.phase }, { on := 5, ground := Ground.phase }, { on := 6, ground := Ground.phase }, { on := 7, ground := Ground.phase }, { on := 8, ground := Ground.phase }], guard := none }) rfl (fun K hK => ?_) AllReadyH.nil
            obtain ⟨⟨g0, g1⟩, f5, f6⟩ := row2b hr8
            have e8 : w1.heap.size < w8.heap.size := (Array.getElem?_eq_some_iff.1 hr8).1
            go_simp
            refine hK.out _ _ ((hHeld.setCell (p := ⟨w1.heap.size, 1, none⟩) HB1.out.size _)) (fun hHeld => ?_)
            clear hK K
            try simp only [Act.put, List.setIfInBounds_toArray, List.set_cons_zero, List.set_cons_succ]
            clear g0 g1 f5 f6 e8 hr8
            clear hHeld HM
            replace HM8 := HM8
            refine wpAnyH_done (by kernel_rfl) ?_ _
            try unfold NoPanic
            generalize World.setCell _ _ _ = w9 at *
            go_wp2
            go_roundw
            case rel =>
              have h := HM8.out
              rw [← HNX.out] at h
              exact ⟨j + 1, by omega, by go_num, _, h⟩
            case measure => simp [intOf]; omega
      · obtain rfl : j = len1 := by omega
        have hall : z1.take j = z1 := List.take_of_length_le (by have := HZ.out.1; omega)
        rw [hall] at HM
        have hX := nrs_len z1
        rw [← HZ.out.1] at hX
        have hPd := dec_nrs f hf16 z1 (by have := HZ.out.1; omega) HZ.out.2.2.1
        have hXf := nrs_fits HZ.out.2.2.1
        obtain ⟨Bq, hBq⟩ : ∃ Bq, Bq = encB f (nrs z1) := ⟨_, rfl⟩
        have hPe : enc f (nrs z1) = sealB Bq := by rw [hBq]; rfl
        have hBl : 2 ≤ Bq.length ∧ Bq.length ≤ 16510 := by
          have h1 := encB_len f (nrs z1)
          have h2 := Coin.sz_le f
          rw [hBq]
          refine ⟨?_, h1⟩
          simp only [encB, List.length_append, List.length_cons, Coin.length_coin]; omega
        generalize hXX : nrs z1 = X at *
        obtain ⟨Ap, cp, hvp, hpsl⟩ := HM.out.po.form
        rw [hX] at hvp
        subst hvp
        have hen := enc_any wr f j cp Ap X (by omega) hX.symm (by omega) hpsl hXf
        rw [hPe] at hen hPd
        obtain ⟨L, hL⟩ : ∃ L, L = (sealB Bq).length := ⟨_, rfl⟩
        have hL6 : 6 ≤ L ∧ L ≤ 16514 := by rw [hL, seal_len]; omega
        obtain ⟨k, hk0⟩ : ∃ k, k = at_ % L := ⟨_, rfl⟩
        have hkl : k < L := by rw [hk0]; exact Nat.mod_lt _ (by omega)
        have hkk : ((at_ : Int) % (L : Int)) = (k : Int) := by rw [hk0]; simp
        have hkt : ((at_ : Int).tmod (L : Int)) = (k : Int) := by rw [Int.tmod_eq_emod_of_nonneg (by omega)]; exact hkk
        obtain ⟨c, hc0⟩ : ∃ c, c = cut % L := ⟨_, rfl⟩
        have hcl : c < L := by rw [hc0]; exact Nat.mod_lt _ (by omega)
        have hcc : ((cut : Int) % (L : Int)) = (c : Int) := by rw [hc0]; simp
        have hcT : ((cut : Int).tmod (L : Int)) = (c : Int) := by rw [Int.tmod_eq_emod_of_nonneg (by omega)]; exact hcc
        have hwk : IntKind.i64.wrap (k : Int) = k := by rw [IntKind.wrap_i64]; omega
        have hwc2 : IntKind.i64.wrap (c : Int) = c := by rw [IntKind.wrap_i64]; omega
        have hPk : k < (sealB Bq).length := by rw [← hL]; exact hkl
        have hxl : ((sealB Bq)[k]).toNat ^^^ turn < 256 := Nat.xor_lt_two_pow (n := 8) (UInt8.toNat_lt _) (by omega)
        have hxr := u8_xor_nat ((sealB Bq)[k]).toNat turn (UInt8.toNat_lt _) (by omega)
        have hdt := fun h0 => dec_turn Bq k hPk turn htn h0
        have hd0 : turn = 0 → (dec ((sealB Bq).set k (UInt8.ofNat (((sealB Bq)[k]).toNat ^^^ turn)))).1 = 0 := fun h => by
          subst h
          rw [Nat.xor_zero, UInt8.ofNat_toNat, List.set_getElem_self, hPd]
        have hset : ((sealB Bq).set k (UInt8.ofNat (((sealB Bq)[k]).toNat ^^^ turn))).length = L := by rw [List.length_set, hL]
        obtain ⟨Q1, hQ1⟩ : ∃ Q1, Q1 = (sealB Bq).set k (UInt8.ofNat (((sealB Bq)[k]).toNat ^^^ turn)) := ⟨_, rfl⟩
        have hgk : ∀ (W : World) (B g cap : Nat), Own W B (.slice (some ⟨g, 0, none⟩) L cap) (sealB Bq) → W.cell? ⟨g, k, none⟩ = some (.int .u8 (((sealB Bq)[k]).toNat : Int)) ∧ W.frozen? ⟨g, k, none⟩ = false ∧ Own (W.setCell ⟨g, k, none⟩ (.int .u8 (((((sealB Bq)[k]).toNat ^^^ turn : Nat)) : Int))) B (.slice (some ⟨g, 0, none⟩) L cap) Q1 := fun W B g cap h => by
          have h1 := own_set h hL k (UInt8.ofNat (((sealB Bq)[k]).toNat ^^^ turn))
          rw [Coin.b8_small _ hxl, ← hQ1] at h1
          exact ⟨own_at h hL k hPk, own_ice h hL k, h1⟩
        rw [← hQ1] at hdt hd0 hset
        clear hQ1
        generalize ((sealB Bq)[k]).toNat ^^^ turn = xx at *
        generalize ((sealB Bq)[k]).toNat = x0 at *
        obtain ⟨e1, he1⟩ : ∃ e1, e1 = (dec Q1).1 := ⟨_, rfl⟩
        obtain ⟨e2, he2⟩ : ∃ e2, e2 = (dec ((sealB Bq).take c)).1 := ⟨_, rfl⟩
        obtain ⟨e3, he3⟩ : ∃ e3, e3 = (dec J).1 := ⟨_, rfl⟩
        obtain ⟨sm, hsm⟩ : ∃ sm, sm = sumsP ((sealB Bq).take c) := ⟨_, rfl⟩
        have htl : ((sealB Bq).take c).length = c := by rw [List.length_take]; omega
        have HG : Hid (((turn = 0 → e1 = 0) ∧ (turn ≠ 0 → e1 ≠ 0)) ∧ (e2 = 0 → sm = true) ∧ (e3 = 0 → sumsP J = true)) := ⟨⟨fun h => he1.trans (hd0 h), fun h => by rw [he1]; exact hdt h⟩, fun h => by rw [hsm]; exact sums_ok _ (he2.symm.trans h), fun h => sums_ok _ (he3.symm.trans h)⟩
        generalize sealB Bq = P at *
        obtain ⟨⟨q0, q1⟩, -, -⟩ := row2b HM.out.row
        have eb := HM.out.lt
        have HN := Lib.hid (And.intro hen (And.intro hL (And.intro hgk (And.intro hset (And.intro he1 (And.intro he2 (And.intro he3 (And.intro hsm htl))))))))
        have hL6a := hL6.1
        have hL6b := hL6.2
        clear hen hL hgk hset he1 he2 he3 hsm htl hPd hXf hPe hX hpsl hXX hall hdt hd0 hPk hxl hk0 hc0 hBq hBl hL6
        go_upto_region 10 with (first
          | (go_at_call 9; (with_reducible refine HN.out.1.mono ?_); (rintro e w6 ⟨v6, rfl, O6, B6⟩; obtain ⟨A6, c6, hv6, R6, hc6, hn6⟩ := O6.form; rw [← HN.out.2.1] at hv6 hc6; subst hv6; have HP6 := Lib.hid (And.intro R6 (And.intro hc6 (And.intro hn6 (HB1.out.trans ((HM.out.step B6).bl.mono HB1.out.size))))); clear O6 B6 R6 hc6 hn6 q0 q1 eb))
          | (at_builtin; (with_reducible refine Coin.app_any rfl (.const (.slice none 0 0)) (.tmp 63) rfl w6.heap.size (.slice none 0 0) [] P A6 L c6 w6.heap.size rfl rfl (Own.nil _ _) HP6.out.1 HN.out.2.1 HP6.out.2.2.1 (by have := HN.out.2.1; simp; omega) (Nat.le_refl _) w6.heap.size w6 (Below.refl _ _) (Nat.le_refl _) ?_); (intro v7 w7 O7 B7 G7; rw [List.nil_append] at O7; obtain ⟨g, cg, hv7, hg7, hcg⟩ := own_head O7 (by have := HN.out.2.1; omega); rw [← HN.out.2.1] at hv7 hcg; subst hv7; have H7 := Lib.hid (And.intro O7 (And.intro B7 (And.intro hg7 hcg))); clear O7 B7 G7 hg7)))
        obtain ⟨hcell, hfz, O8⟩ := HN.out.2.2.1 w7 _ g cg H7.out.1
        have hcg := H7.out.2.2.2
        have e7 : g < w7.heap.size := (H7.out.1.lt g rfl).2
        have B8 := H7.out.2.1.setCell (p := ⟨g, k, none⟩) H7.out.2.2.1 (.int .u8 (xx : Int))
        have H8 := Lib.hid (And.intro O8 B8)
        clear O8 B8
        go_upto_region 11 with (fail)
        generalize World.setCell _ _ _ = w8 at *
        clear hcell hfz e7
        have hd1 := dec_weak (some ⟨g, 0, none⟩) L cg Q1 w8 HN.out.2.2.2.1.symm (by omega) H8.out.1.rd hcg (fun h => by cases h)
        rw [← HN.out.2.2.2.2.1] at hd1
        have HD1 := Lib.hid hd1
        have hd2 : ∀ W, Below w6.heap.size w6 W → Calls Try.prog 16 #[.slice A6 c c6] W fun e w' => ∃ (x u n : Nat) (A' : Option Addr) (c' : Nat), e = .returned (.tuple #[.agg #[.int .i64 (x : Int), .slice A' n c'], .int .i64 (u : Int), .int .i64 (e2 : Int)]) ∧ Below W.heap.size W w' := fun W h => by
          rw [HN.out.2.2.2.2.2.1]
          exact dec_weak A6 c c6 (P.take c) W HN.out.2.2.2.2.2.2.2.2.symm (by omega) (((HP6.out.1.take c).below h (Nat.le_refl _)).more h.size) (by have := HP6.out.2.1; omega) HP6.out.2.2.1
        have HSm : Hid (∀ W, Below w6.heap.size w6 W → Calls Try.prog 18 #[.slice A6 c c6] W fun e w' => e = .returned (.bool sm) ∧ Below W.heap.size W w') := fun W h => by
          rw [HN.out.2.2.2.2.2.2.2.1]
          exact sums_any W A6 c c6 (P.take c) HN.out.2.2.2.2.2.2.2.2.symm (by omega) (((HP6.out.1.take c).below h (Nat.le_refl _)).more h.size) (by have := HP6.out.2.1; omega) HP6.out.2.2.1
        have hd3 : ∀ W, Below w.heap.size w W → Calls Try.prog 16 #[.slice a5 len5 cap5] W fun e w' => ∃ (x u n : Nat) (A' : Option Addr) (c' : Nat), e = .returned (.tuple #[.agg #[.int .i64 (x : Int), .slice A' n c'], .int .i64 (u : Int), .int .i64 (e3 : Int)]) ∧ Below W.heap.size W w' := fun W h => by
          rw [HN.out.2.2.2.2.2.2.1]
          exact dec_weak a5 len5 cap5 J W HJ.out.1 (by omega) ((HJ.out.2.2.1.below h (Nat.le_refl _)).more h.size) HJ.out.2.1 HJ.out.2.2.2
        have HD23 := Lib.hid (And.intro hd2 hd3)
        have hup : ∀ W, (Instr.slice 30 (.slice A6 L c6) none (some (.int .i64 (c : Int))) none).run Try.prog W = .ok (.slice A6 c c6) W := fun W => Coin.upto_any (A := A6) L c6 c HP6.out.2.2.1 HP6.out.2.1 (by omega) W
        have hc6' : (c : Int) ≤ (c6 : Int) := by have := HP6.out.2.1; omega
        clear hd1 hd2 hd3
        go_upto_region 12 with (go_at_call 16; (with_reducible refine HD1.out.mono ?_); (rintro e w9 ⟨x9, u9, n9, A9, c9, rfl, B9⟩; have H9 := Lib.hid ((H8.out.2.trans (B9.mono H8.out.2.size)).alloc (Nat.le_trans H8.out.2.size B9.size) (.cells #[.int .i64 (x9 : Int), .slice A9 n9 c9] 34)); clear B9))
        generalize w9.alloc _ = w10 at *
        go_upto_region 13 with (go_at_call 16; (with_reducible refine (HD23.out.1 _ H9.out).mono ?_); (rintro e w11 ⟨x11, u11, n11, A11, c11, rfl, B11⟩; have H11 := Lib.hid ((H9.out.trans (B11.mono H9.out.size)).alloc (Nat.le_trans H9.out.size B11.size) (.cells #[.int .i64 (x11 : Int), .slice A11 n11 c11] 34)); clear B11))
        generalize w11.alloc _ = w12 at *
        go_upto_region 14 with (go_at_call 16; (with_reducible refine (HD23.out.2 _ (HP6.out.2.2.2.trans (H11.out.mono HP6.out.2.2.2.size))).mono ?_); (rintro e w13 ⟨x13, u13, n13, A13, c13, rfl, B13⟩; have H13 := Lib.hid ((H11.out.trans (B13.mono H11.out.size)).alloc (Nat.le_trans H11.out.size B13.size) (.cells #[.int .i64 (x13 : Int), .slice A13 n13 c13] 34)); clear B13))
        generalize w13.alloc _ = wy at *
        have HBy := Lib.hid (HP6.out.2.2.2.trans (H13.out.mono HP6.out.2.2.2.size))
        have HSm' : Hid (∀ W, Below wy.heap.size wy W → Calls Try.prog 18 #[.slice A6 c c6] W fun e w' => e = .returned (.bool sm) ∧ Below W.heap.size W w') := fun W h => HSm.out W (H13.out.trans (h.mono H13.out.size))
        clear HSm
        have HSm := HSm'
        clear HSm' HD1 HD23 H9 H11 H8 H7
        by_cases h6 : len5 < 6
        · have hs0 : sumsP J = false := by unfold sumsP; rw [decide_eq_false (by have := HJ.out.1; omega)]; rfl
          have HS0 := Lib.hid hs0
          have h2 : ¬ ((2 : Int) ≤ (len5 : Int) - 4) := by omega
          have hw : IntKind.i64.wrap ((len5 : Int) - 4) = (len5 : Int) - 4 := by rw [IntKind.wrap_i64]; omega
          obtain ⟨z, hz⟩ : ∃ z : Int, z = (len5 : Int) - 4 := ⟨_, rfl⟩
          rw [← hz] at h2 hw
          have hz' : (len5 : Int) - 4 = z := hz.symm
          clear hz hs0
          go_upto_region 15 with (fail)
          refine wp_region_noPanic ?_
          refine wp_region_held_drew (S := fun W : World => Below wy.heap.size wy W) (by kernel_rfl) ((Below.refl _ _).drew) (fun hHeld => ?_)
          generalize wy.drew = wd at *
          refine wpAnyH_take (i := 0) (oi := { dst := some 103, op := Op.move (Operand.tmp 26), type := 3, pos := "law.go:151", after := #[], guard := none }) (v := .int .i64 z) rfl (by kernel_rfl) (by kernel_rfl) (by kernel_rfl) (fun _ _ _ h => h) (Or.inl ⟨by rfl, fun w hSw => by go_simp⟩) (by assumption) ?_
          try simp only [Act.put, List.setIfInBounds_toArray, List.set_cons_zero, List.set_cons_succ]
          refine wpAnyH_take (i := 1) (oi := { dst := some 104, op := Op.binOp BinOp.geq 3 (Operand.tmp 103) (Operand.const (Value.int IntKind.i64 2)) 3, type := 4, pos := "law.go:151", after := #[{ on := 0, ground := Ground.data }], guard := none }) (v := .bool false) rfl (by kernel_rfl) (by kernel_rfl) (by kernel_rfl) (fun _ _ _ h => h) (Or.inl ⟨by rfl, fun w hSw => by have hd : decide ((2 : Int) ≤ z) = false := decide_eq_false h2; go_simp⟩) (by assumption) ?_
          try simp only [Act.put, List.setIfInBounds_toArray, List.set_cons_zero, List.set_cons_succ]
          refine wpAnyH_take (i := 2) (oi := { dst := some 105, op := Op.move (Operand.tmp 104), type := 4, pos := "law.go:151", after := #[{ on := 1, ground := Ground.data }], guard := none }) (v := .bool false) rfl (by kernel_rfl) (by kernel_rfl) (by kernel_rfl) (fun _ _ _ h => h) (Or.inl ⟨by rfl, fun w hSw => by go_simp⟩) (by assumption) ?_
          try simp only [Act.put, List.setIfInBounds_toArray, List.set_cons_zero, List.set_cons_succ]
          refine wpAnyH_take (i := 3) (oi := { dst := some 106, op := Op.move (Operand.tmp 5), type := 30, pos := "law.go:151", after := #[{ on := 2, ground := Ground.guard }], guard := some (2, true) }) (v := undef) rfl (by kernel_rfl) (by kernel_rfl) (by kernel_rfl) (fun _ _ _ h => h) (Or.inr ⟨by rfl, rfl⟩) (by assumption) ?_
          try simp only [Act.put, List.setIfInBounds_toArray, List.set_cons_zero, List.set_cons_succ]
          refine wpAnyH_take (i := 4) (oi := { dst := some 107, op := Op.move (Operand.tmp 26), type := 3, pos := "law.go:151", after := #[{ on := 2, ground := Ground.guard }], guard := some (2, true) }) (v := undef) rfl (by kernel_rfl) (by kernel_rfl) (by kernel_rfl) (fun _ _ _ h => h) (Or.inr ⟨by rfl, rfl⟩) (by assumption) ?_
          try simp only [Act.put, List.setIfInBounds_toArray, List.set_cons_zero, List.set_cons_succ]
          refine wpAnyH_take (i := 5) (oi := { dst := some 108, op := Op.slice 30 (Operand.tmp 106) none (some (Operand.tmp 107)) none, type := 30, pos := "law.go:151", after := #[{ on := 3, ground := Ground.data }, { on := 4, ground := Ground.data }, { on := 2, ground := Ground.guard }], guard := some (2, true) }) (v := undef) rfl (by kernel_rfl) (by kernel_rfl) (by kernel_rfl) (fun _ _ _ h => h) (Or.inr ⟨by rfl, rfl⟩) (by assumption) ?_
          try simp only [Act.put, List.setIfInBounds_toArray, List.set_cons_zero, List.set_cons_succ]
          refine wpAnyH_take (i := 6) (oi := { dst := some 109, op := Op.call { callee := Callee.value (Operand.func 17), args := #[Operand.tmp 108], argTypes := #[30] }, type := 30, pos := "law.go:151", after := #[{ on := 5, ground := Ground.data }, { on := 2, ground := Ground.chain }, { on := 2, ground := Ground.guard }], guard := some (2, true) }) (v := undef) rfl (by kernel_rfl) (by kernel_rfl) (by kernel_rfl) (fun _ _ _ h => h) (Or.inr ⟨by rfl, rfl⟩) (by assumption) ?_
          try simp only [Act.put, List.setIfInBounds_toArray, List.set_cons_zero, List.set_cons_succ]
          refine wpAnyH_take (i := 7) (oi := { dst := some 110, op := Op.convert 30 9 (Operand.tmp 109), type := 9, pos := "law.go:151", after := #[{ on := 6, ground := Ground.data }, { on := 2, ground := Ground.guard }], guard := some (2, true) }) (v := undef) rfl (by kernel_rfl) (by kernel_rfl) (by kernel_rfl) (fun _ _ _ h => h) (Or.inr ⟨by rfl, rfl⟩) (by assumption) ?_
          try simp only [Act.put, List.setIfInBounds_toArray, List.set_cons_zero, List.set_cons_succ]
          refine wpAnyH_take (i := 8) (oi := { dst := some 111, op := Op.move (Operand.tmp 5), type := 30, pos := "law.go:151", after := #[{ on := 2, ground := Ground.guard }], guard := some (2, true) }) (v := undef) rfl (by kernel_rfl) (by kernel_rfl) (by kernel_rfl) (fun _ _ _ h => h) (Or.inr ⟨by rfl, rfl⟩) (by assumption) ?_
          try simp only [Act.put, List.setIfInBounds_toArray, List.set_cons_zero, List.set_cons_succ]
          refine wpAnyH_take (i := 9) (oi := { dst := some 112, op := Op.move (Operand.tmp 26), type := 3, pos := "law.go:151", after := #[{ on := 2, ground := Ground.guard }], guard := some (2, true) }) (v := undef) rfl (by kernel_rfl) (by kernel_rfl) (by kernel_rfl) (fun _ _ _ h => h) (Or.inr ⟨by rfl, rfl⟩) (by assumption) ?_
          try simp only [Act.put, List.setIfInBounds_toArray, List.set_cons_zero, List.set_cons_succ]
          refine wpAnyH_take (i := 10) (oi := { dst := some 113, op := Op.slice 30 (Operand.tmp 111) (some (Operand.tmp 112)) none none, type := 30, pos := "law.go:151", after := #[{ on := 8, ground := Ground.data }, { on := 9, ground := Ground.data }, { on := 2, ground := Ground.guard }], guard := some (2, true) }) (v := undef) rfl (by kernel_rfl) (by kernel_rfl) (by kernel_rfl) (fun _ _ _ h => h) (Or.inr ⟨by rfl, rfl⟩) (by assumption) ?_
          try simp only [Act.put, List.setIfInBounds_toArray, List.set_cons_zero, List.set_cons_succ]
          refine wpAnyH_take (i := 11) (oi := { dst := some 114, op := Op.convert 30 9 (Operand.tmp 113), type := 9, pos := "law.go:151", after := #[{ on := 10, ground := Ground.data }, { on := 2, ground := Ground.guard }], guard := some (2, true) }) (v := undef) rfl (by kernel_rfl) (by kernel_rfl) (by kernel_rfl) (fun _ _ _ h => h) (Or.inr ⟨by rfl, rfl⟩) (by assumption) ?_
          try simp only [Act.put, List.setIfInBounds_toArray, List.set_cons_zero, List.set_cons_succ]
          refine wpAnyH_take (i := 12) (oi := { dst := some 115, op := Op.binOp BinOp.eql 9 (Operand.tmp 110) (Operand.tmp 114) 9, type := 4, pos := "law.go:151", after := #[{ on := 7, ground := Ground.data }, { on := 11, ground := Ground.data }, { on := 2, ground := Ground.guard }], guard := some (2, true) }) (v := undef) rfl (by kernel_rfl) (by kernel_rfl) (by kernel_rfl) (fun _ _ _ h => h) (Or.inr ⟨by rfl, rfl⟩) (by assumption) ?_
          try simp only [Act.put, List.setIfInBounds_toArray, List.set_cons_zero, List.set_cons_succ]
          refine wpAnyH_take (i := 13) (oi := { dst := some 116, op := Op.pick (Operand.tmp 105) (Operand.tmp 115) (Operand.const (Value.bool false)), type := 4, pos := "law.go:151", after := #[{ on := 2, ground := Ground.data }, { on := 12, ground := Ground.data }], guard := none }) (v := .bool false) rfl (by kernel_rfl) (by kernel_rfl) (by kernel_rfl) (fun _ _ _ h => h) (Or.inl ⟨by rfl, fun w hSw => by go_simp⟩) (by assumption) ?_
          try simp only [Act.put, List.setIfInBounds_toArray, List.set_cons_zero, List.set_cons_succ]
          refine wpAnyH_take (i := 14) (oi := { dst := some 27, op := Op.assign (Operand.tmp 116), type := 4, pos := "law.go:151", after := #[{ on := 13, ground := Ground.data }, { on := 6, ground := Ground.chain }, { on := 0, ground := Ground.phase }, { on := 1, ground := Ground.phase }, { on := 2, ground := Ground.phase }, { on := 3, ground := Ground.phase }, { on := 4, ground := Ground.phase }, { on := 5, ground := Ground.phase }, { on := 6, ground := Ground.phase }, { on := 7, ground := Ground.phase }, { on := 8, ground := Ground.phase }, { on := 9, ground := Ground.phase }, { on := 10, ground := Ground.phase }, { on := 11, ground := Ground.phase }, { on := 12, ground := Ground.phase }, { on := 13, ground := Ground.phase }], guard := none }) (v := .bool false) rfl (by kernel_rfl) (by kernel_rfl) (by kernel_rfl) (fun _ _ _ h => h) (Or.inl ⟨by rfl, fun w hSw => by go_simp⟩) (by assumption) ?_
          try simp only [Act.put, List.setIfInBounds_toArray, List.set_cons_zero, List.set_cons_succ]
          have HE := Lib.hid hHeld
          clear hHeld
          refine wpAnyH_done (by kernel_rfl) ?_ _
          try unfold NoPanic
          by_cases ht0 : turn = 0
          · have h1e := HG.out.1.1 ht0
            subst ht0
            subst h1e
            by_cases h2e : e2 = 0
            · have hsm := HG.out.2.1 h2e
              subst h2e
              subst hsm
              have h3 : e3 ≠ 0 := fun h => by have := HG.out.2.2 h; rw [HS0.out] at this; cases this
              have h3a : ((e3 : Int) == 0) = false := by simp; omega
              have h3b : ((e3 : Int) != 0) = true := by simp; omega
              go_wp2_with (go_at_call 18; (with_reducible refine (HSm.out _ HE.out).mono ?_); (rintro e w30 ⟨rfl, B30⟩; have HB30 := Lib.hid (HE.out.trans (B30.mono HE.out.size)); clear B30))
              go_ret
              exact ⟨rfl, HBy.out.trans (HB30.out.mono HBy.out.size)⟩
            · have h2a : ((e2 : Int) == 0) = false := by simp; omega
              have h2b : ((e2 : Int) != 0) = true := by simp; omega
              have h3 : e3 ≠ 0 := fun h => by have := HG.out.2.2 h; rw [HS0.out] at this; cases this
              have h3a : ((e3 : Int) == 0) = false := by simp; omega
              have h3b : ((e3 : Int) != 0) = true := by simp; omega
              go_wp2
              go_ret
              exact ⟨rfl, HBy.out.trans (HE.out.mono HBy.out.size)⟩
          · have h1e := HG.out.1.2 ht0
            have h1a : ((e1 : Int) == 0) = false := by simp; omega
            have h1b : ((turn : Int) == 0) = false := by simp; omega
            by_cases h2e : e2 = 0
            · have hsm := HG.out.2.1 h2e
              subst h2e
              subst hsm
              have h3 : e3 ≠ 0 := fun h => by have := HG.out.2.2 h; rw [HS0.out] at this; cases this
              have h3a : ((e3 : Int) == 0) = false := by simp; omega
              have h3b : ((e3 : Int) != 0) = true := by simp; omega
              go_wp2_with (go_at_call 18; (with_reducible refine (HSm.out _ HE.out).mono ?_); (rintro e w30 ⟨rfl, B30⟩; have HB30 := Lib.hid (HE.out.trans (B30.mono HE.out.size)); clear B30))
              go_ret
              exact ⟨rfl, HBy.out.trans (HB30.out.mono HBy.out.size)⟩
            · have h2a : ((e2 : Int) == 0) = false := by simp; omega
              have h2b : ((e2 : Int) != 0) = true := by simp; omega
              have h3 : e3 ≠ 0 := fun h => by have := HG.out.2.2 h; rw [HS0.out] at this; cases this
              have h3a : ((e3 : Int) == 0) = false := by simp; omega
              have h3b : ((e3 : Int) != 0) = true := by simp; omega
              go_wp2
              go_ret
              exact ⟨rfl, HBy.out.trans (HE.out.mono HBy.out.size)⟩
        · obtain ⟨nn, hnn⟩ : ∃ nn, nn + 4 = len5 := ⟨len5 - 4, by omega⟩
          have hz : (len5 : Int) - 4 = (nn : Int) := by omega
          have hw : IntKind.i64.wrap (nn : Int) = (nn : Int) := by rw [IntKind.wrap_i64]; omega
          have h2 : (2 : Int) ≤ (nn : Int) := by omega
          have hln : J.length - 4 = nn := by have := HJ.out.1; omega
          have hupj := Coin.upto_any (A := a5) len5 cap5 nn HJ.out.2.2.2 HJ.out.2.1 (by omega)
          have RJy := (HJ.out.2.2.1.below HBy.out (Nat.le_refl _)).more HBy.out.size
          obtain ⟨A2, hs2, R2, hA2⟩ := Coin.cut_any RJy len5 cap5 nn HJ.out.1 HJ.out.2.1 HJ.out.2.2.2 (by omega)
          have hcv : ∀ W, Below wy.heap.size wy W → (convert 30 9 (.slice A2 (len5 - nn) (cap5 - nn))).run Try.prog W = .ok (.string (Coin.str (J.drop nn))) W := fun W h => Coin.conv_any (R2.below h (Nat.le_refl _)) (len5 - nn) (cap5 - nn) (by have := HJ.out.1; rw [List.length_drop]; omega)
          have htl : (J.take nn).length = nn := by have := HJ.out.1; rw [List.length_take]; omega
          have hct : ∀ W, Below wy.heap.size wy W → Calls Try.prog 17 #[.slice a5 nn cap5] W (TailSaid W (J.take nn)) := fun W h => by
            have := tail_any a5 cap5 wy.heap.size (J.take nn) W (by omega) ((RJy.take nn).below h (Nat.le_refl _))
            rw [htl] at this; exact this
          unfold TailSaid at hct
          have hT : 4 = (tailb (Tal.more 0 (J.take nn))).length := rfl
          obtain ⟨y, hy⟩ : ∃ y : Bool, y = (tailb (Tal.more 0 (J.take nn)) == J.drop nn) := ⟨_, rfl⟩
          have hres : sumsP J = y := by unfold sumsP; rw [decide_eq_true (by have := HJ.out.1; omega), hln, hy]; rfl
          have HG' : Hid (((turn = 0 → e1 = 0) ∧ (turn ≠ 0 → e1 ≠ 0)) ∧ (e2 = 0 → sm = true) ∧ (e3 = 0 → y = true)) := ⟨HG.out.1, HG.out.2.1, fun h => by rw [← hres]; exact HG.out.2.2 h⟩
          clear HG
          have HG := HG'
          clear HG'
          have hbe := str_beq (tailb (Tal.more 0 (J.take nn))) (J.drop nn)
          rw [← hy] at hbe
          generalize tailb (Tal.more 0 (J.take nn)) = T at *
          obtain ⟨SD, hSD⟩ : ∃ SD, SD = Coin.str (J.drop nn) := ⟨_, rfl⟩
          obtain ⟨ST, hST⟩ : ∃ ST, Coin.str T = ST := ⟨_, rfl⟩
          rw [← hSD] at hcv hbe
          rw [hST] at hbe
          have HX := Lib.hid (And.intro hupj (And.intro hs2 (And.intro hcv (And.intro hct (And.intro hT (And.intro hST hbe))))))
          have hnm : (nn : Int) ≤ len5 := by omega
          have hnc : (nn : Int) ≤ cap5 := by have := HJ.out.2.1; omega
          clear hupj hs2 hcv hct hT hST hbe hres hy hSD htl hln R2 hA2 hnn RJy
          go_upto_region 15 with (fail)
          refine wp_region_noPanic ?_
          refine wp_region_held_drew (S := fun W : World => Below wy.heap.size wy W) (by kernel_rfl) ((Below.refl _ _).drew) (fun hHeld => ?_)
          generalize wy.drew = wd at *
          refine wpAnyH_take (i := 0) (oi := { dst := some 103, op := Op.move (Operand.tmp 26), type := 3, pos := "law.go:151", after := #[], guard := none }) (v := .int .i64 (nn : Int)) rfl (by kernel_rfl) (by kernel_rfl) (by kernel_rfl) (fun _ _ _ h => h) (Or.inl ⟨by rfl, fun w hSw => by go_simp⟩) (by assumption) ?_
          try simp only [Act.put, List.setIfInBounds_toArray, List.set_cons_zero, List.set_cons_succ]
          refine wpAnyH_take (i := 1) (oi := { dst := some 104, op := Op.binOp BinOp.geq 3 (Operand.tmp 103) (Operand.const (Value.int IntKind.i64 2)) 3, type := 4, pos := "law.go:151", after := #[{ on := 0, ground := Ground.data }], guard := none }) (v := .bool true) rfl (by kernel_rfl) (by kernel_rfl) (by kernel_rfl) (fun _ _ _ h => h) (Or.inl ⟨by rfl, fun w hSw => by go_simp⟩) (by assumption) ?_
          try simp only [Act.put, List.setIfInBounds_toArray, List.set_cons_zero, List.set_cons_succ]
          refine wpAnyH_take (i := 2) (oi := { dst := some 105, op := Op.move (Operand.tmp 104), type := 4, pos := "law.go:151", after := #[{ on := 1, ground := Ground.data }], guard := none }) (v := .bool true) rfl (by kernel_rfl) (by kernel_rfl) (by kernel_rfl) (fun _ _ _ h => h) (Or.inl ⟨by rfl, fun w hSw => by go_simp⟩) (by assumption) ?_
          try simp only [Act.put, List.setIfInBounds_toArray, List.set_cons_zero, List.set_cons_succ]
          refine wpAnyH_take (i := 3) (oi := { dst := some 106, op := Op.move (Operand.tmp 5), type := 30, pos := "law.go:151", after := #[{ on := 2, ground := Ground.guard }], guard := some (2, true) }) (v := .slice a5 len5 cap5) rfl (by kernel_rfl) (by kernel_rfl) (by kernel_rfl) (fun _ _ _ h => h) (Or.inl ⟨by rfl, fun w hSw => by go_simp⟩) (by assumption) ?_
          try simp only [Act.put, List.setIfInBounds_toArray, List.set_cons_zero, List.set_cons_succ]
          refine wpAnyH_take (i := 4) (oi := { dst := some 107, op := Op.move (Operand.tmp 26), type := 3, pos := "law.go:151", after := #[{ on := 2, ground := Ground.guard }], guard := some (2, true) }) (v := .int .i64 (nn : Int)) rfl (by kernel_rfl) (by kernel_rfl) (by kernel_rfl) (fun _ _ _ h => h) (Or.inl ⟨by rfl, fun w hSw => by go_simp⟩) (by assumption) ?_
          try simp only [Act.put, List.setIfInBounds_toArray, List.set_cons_zero, List.set_cons_succ]
          refine wpAnyH_take (i := 5) (oi := { dst := some 108, op := Op.slice 30 (Operand.tmp 106) none (some (Operand.tmp 107)) none, type := 30, pos := "law.go:151", after := #[{ on := 3, ground := Ground.data }, { on := 4, ground := Ground.data }, { on := 2, ground := Ground.guard }], guard := some (2, true) }) (v := .slice a5 nn cap5) rfl (by kernel_rfl) (by kernel_rfl) (by kernel_rfl) (fun _ _ _ h => h) (Or.inl ⟨by rfl, fun w hSw => by have := HX.out.1 w; go_simp⟩) (by assumption) ?_
          try simp only [Act.put, List.setIfInBounds_toArray, List.set_cons_zero, List.set_cons_succ]
          refine wpAnyH_take (i := 8) (oi := { dst := some 111, op := Op.move (Operand.tmp 5), type := 30, pos := "law.go:151", after := #[{ on := 2, ground := Ground.guard }], guard := some (2, true) }) (v := .slice a5 len5 cap5) rfl (by kernel_rfl) (by kernel_rfl) (by kernel_rfl) (fun _ _ _ h => h) (Or.inl ⟨by rfl, fun w hSw => by go_simp⟩) (by assumption) ?_
          try simp only [Act.put, List.setIfInBounds_toArray, List.set_cons_zero, List.set_cons_succ]
          refine wpAnyH_take (i := 9) (oi := { dst := some 112, op := Op.move (Operand.tmp 26), type := 3, pos := "law.go:151", after := #[{ on := 2, ground := Ground.guard }], guard := some (2, true) }) (v := .int .i64 (nn : Int)) rfl (by kernel_rfl) (by kernel_rfl) (by kernel_rfl) (fun _ _ _ h => h) (Or.inl ⟨by rfl, fun w hSw => by go_simp⟩) (by assumption) ?_
          try simp only [Act.put, List.setIfInBounds_toArray, List.set_cons_zero, List.set_cons_succ]
          refine wpAnyH_take (i := 10) (oi := { dst := some 113, op := Op.slice 30 (Operand.tmp 111) (some (Operand.tmp 112)) none none, type := 30, pos := "law.go:151", after := #[{ on := 8, ground := Ground.data }, { on := 9, ground := Ground.data }, { on := 2, ground := Ground.guard }], guard := some (2, true) }) (v := .slice A2 (len5 - nn) (cap5 - nn)) rfl (by kernel_rfl) (by kernel_rfl) (by kernel_rfl) (fun _ _ _ h => h) (Or.inl ⟨by rfl, fun w hSw => by have := HX.out.2.1 w; go_simp⟩) (by assumption) ?_
          try simp only [Act.put, List.setIfInBounds_toArray, List.set_cons_zero, List.set_cons_succ]
          refine wpAnyH_take (i := 11) (oi := { dst := some 114, op := Op.convert 30 9 (Operand.tmp 113), type := 9, pos := "law.go:151", after := #[{ on := 10, ground := Ground.data }, { on := 2, ground := Ground.guard }], guard := some (2, true) }) (v := .string SD) rfl (by kernel_rfl) (by kernel_rfl) (by kernel_rfl) (fun _ _ _ h => h) (Or.inl ⟨by rfl, fun w hSw => by have := HX.out.2.2.1 w hSw; go_simp⟩) (by assumption) ?_
          try simp only [Act.put, List.setIfInBounds_toArray, List.set_cons_zero, List.set_cons_succ]
          refine wpAnyH_ready (rs := [6]) (by kernel_rfl) (by simp) ?_
          refine AllReadyH.cons (o := { dst := some 109, op := Op.call { callee := Callee.value (Operand.func 17), args := #[Operand.tmp 108], argTypes := #[30] }, type := 30, pos := "law.go:151", after := #[{ on := 5, ground := Ground.data }, { on := 2, ground := Ground.chain }, { on := 2, ground := Ground.guard }], guard := some (2, true) }) rfl (fun K hK => ?_) AllReadyH.nil
          go_simp
          with_reducible refine (HX.out.2.2.2.1 _ hHeld).mono ?_
          rintro e wz ⟨rfl, RT, BT⟩
          have hb := hHeld.trans (BT.mono hHeld.size)
          obtain ⟨g, hg⟩ : ∃ g, g = wd.heap.size := ⟨_, rfl⟩
          rw [← hg] at RT ⊢
          clear hg
          refine hK.out _ _ (hb) (fun hHeld => ?_)
          clear hK K
          try simp only [Act.put, List.setIfInBounds_toArray, List.set_cons_zero, List.set_cons_succ]
          refine wpAnyH_ready (rs := [7]) (by kernel_rfl) (by simp) ?_
          refine AllReadyH.cons (o := { dst := some 110, op := Op.convert 30 9 (Operand.tmp 109), type := 9, pos := "law.go:151", after := #[{ on := 6, ground := Ground.data }, { on := 2, ground := Ground.guard }], guard := some (2, true) }) rfl (fun K hK => ?_) AllReadyH.nil
          have hc := Coin.conv_any RT.rd 4 4 HX.out.2.2.2.2.1
          rw [HX.out.2.2.2.2.2.1] at hc
          go_simp
          refine hK.out _ _ (hHeld) (fun hHeld => ?_)
          clear hK K
          try simp only [Act.put, List.setIfInBounds_toArray, List.set_cons_zero, List.set_cons_succ]
          clear hc
          refine wpAnyH_take (i := 12) (oi := { dst := some 115, op := Op.binOp BinOp.eql 9 (Operand.tmp 110) (Operand.tmp 114) 9, type := 4, pos := "law.go:151", after := #[{ on := 7, ground := Ground.data }, { on := 11, ground := Ground.data }, { on := 2, ground := Ground.guard }], guard := some (2, true) }) (v := .bool y) rfl (by kernel_rfl) (by kernel_rfl) (by kernel_rfl) (fun _ _ _ h => h) (Or.inl ⟨by rfl, fun w hSw => by have := HX.out.2.2.2.2.2.2; go_simp⟩) (by assumption) ?_
          try simp only [Act.put, List.setIfInBounds_toArray, List.set_cons_zero, List.set_cons_succ]
          refine wpAnyH_take (i := 13) (oi := { dst := some 116, op := Op.pick (Operand.tmp 105) (Operand.tmp 115) (Operand.const (Value.bool false)), type := 4, pos := "law.go:151", after := #[{ on := 2, ground := Ground.data }, { on := 12, ground := Ground.data }], guard := none }) (v := .bool y) rfl (by kernel_rfl) (by kernel_rfl) (by kernel_rfl) (fun _ _ _ h => h) (Or.inl ⟨by rfl, fun w hSw => by go_simp⟩) (by assumption) ?_
          try simp only [Act.put, List.setIfInBounds_toArray, List.set_cons_zero, List.set_cons_succ]
          refine wpAnyH_take (i := 14) (oi := { dst := some 27, op := Op.assign (Operand.tmp 116), type := 4, pos := "law.go:151", after := #[{ on := 13, ground := Ground.data }, { on := 6, ground := Ground.chain }, { on := 0, ground := Ground.phase }, { on := 1, ground := Ground.phase }, { on := 2, ground := Ground.phase }, { on := 3, ground := Ground.phase }, { on := 4, ground := Ground.phase }, { on := 5, ground := Ground.phase }, { on := 6, ground := Ground.phase }, { on := 7, ground := Ground.phase }, { on := 8, ground := Ground.phase }, { on := 9, ground := Ground.phase }, { on := 10, ground := Ground.phase }, { on := 11, ground := Ground.phase }, { on := 12, ground := Ground.phase }, { on := 13, ground := Ground.phase }], guard := none }) (v := .bool y) rfl (by kernel_rfl) (by kernel_rfl) (by kernel_rfl) (fun _ _ _ h => h) (Or.inl ⟨by rfl, fun w hSw => by go_simp⟩) (by assumption) ?_
          try simp only [Act.put, List.setIfInBounds_toArray, List.set_cons_zero, List.set_cons_succ]
          have HE := Lib.hid hHeld
          clear hHeld
          refine wpAnyH_done (by kernel_rfl) ?_ _
          try unfold NoPanic
          by_cases ht0 : turn = 0
          · have h1e := HG.out.1.1 ht0
            subst ht0
            subst h1e
            by_cases h2e : e2 = 0
            · have hsm := HG.out.2.1 h2e
              subst h2e
              subst hsm
              by_cases h3 : e3 = 0
              · have hgb := HG.out.2.2 h3
                subst h3
                subst hgb
                go_wp2_with (go_at_call 18; (with_reducible refine (HSm.out _ HE.out).mono ?_); (rintro e w30 ⟨rfl, B30⟩; have HB30 := Lib.hid (HE.out.trans (B30.mono HE.out.size)); clear B30))
                go_ret
                exact ⟨rfl, HBy.out.trans (HB30.out.mono HBy.out.size)⟩
              · have h3a : ((e3 : Int) == 0) = false := by simp; omega
                have h3b : ((e3 : Int) != 0) = true := by simp; omega
                go_wp2_with (go_at_call 18; (with_reducible refine (HSm.out _ HE.out).mono ?_); (rintro e w30 ⟨rfl, B30⟩; have HB30 := Lib.hid (HE.out.trans (B30.mono HE.out.size)); clear B30))
                go_ret
                exact ⟨rfl, HBy.out.trans (HB30.out.mono HBy.out.size)⟩
            · have h2a : ((e2 : Int) == 0) = false := by simp; omega
              have h2b : ((e2 : Int) != 0) = true := by simp; omega
              by_cases h3 : e3 = 0
              · have hgb := HG.out.2.2 h3
                subst h3
                subst hgb
                go_wp2
                go_ret
                exact ⟨rfl, HBy.out.trans (HE.out.mono HBy.out.size)⟩
              · have h3a : ((e3 : Int) == 0) = false := by simp; omega
                have h3b : ((e3 : Int) != 0) = true := by simp; omega
                go_wp2
                go_ret
                exact ⟨rfl, HBy.out.trans (HE.out.mono HBy.out.size)⟩
          · have h1e := HG.out.1.2 ht0
            have h1a : ((e1 : Int) == 0) = false := by simp; omega
            have h1b : ((turn : Int) == 0) = false := by simp; omega
            by_cases h2e : e2 = 0
            · have hsm := HG.out.2.1 h2e
              subst h2e
              subst hsm
              by_cases h3 : e3 = 0
              · have hgb := HG.out.2.2 h3
                subst h3
                subst hgb
                go_wp2_with (go_at_call 18; (with_reducible refine (HSm.out _ HE.out).mono ?_); (rintro e w30 ⟨rfl, B30⟩; have HB30 := Lib.hid (HE.out.trans (B30.mono HE.out.size)); clear B30))
                go_ret
                exact ⟨rfl, HBy.out.trans (HB30.out.mono HBy.out.size)⟩
              · have h3a : ((e3 : Int) == 0) = false := by simp; omega
                have h3b : ((e3 : Int) != 0) = true := by simp; omega
                go_wp2_with (go_at_call 18; (with_reducible refine (HSm.out _ HE.out).mono ?_); (rintro e w30 ⟨rfl, B30⟩; have HB30 := Lib.hid (HE.out.trans (B30.mono HE.out.size)); clear B30))
                go_ret
                exact ⟨rfl, HBy.out.trans (HB30.out.mono HBy.out.size)⟩
            · have h2a : ((e2 : Int) == 0) = false := by simp; omega
              have h2b : ((e2 : Int) != 0) = true := by simp; omega
              by_cases h3 : e3 = 0
              · have hgb := HG.out.2.2 h3
                subst h3
                subst hgb
                go_wp2
                go_ret
                exact ⟨rfl, HBy.out.trans (HE.out.mono HBy.out.size)⟩
              · have h3a : ((e3 : Int) == 0) = false := by simp; omega
                have h3b : ((e3 : Int) != 0) = true := by simp; omega
                go_wp2
                go_ret
                exact ⟨rfl, HBy.out.trans (HE.out.mono HBy.out.size)⟩

set_option maxRecDepth 100000 in
theorem lifted (os : Os) (started : os.Started) (H : Type) (enc : TypeId × Value → H) :
    ReturnsInHanded {} Try.checked os 5 .any (Rows.messageTurnsSpec.pre6 enc Try.prog Try.f5 Rows.messageTurnsRow.domain false) (Rows.messageTurnsSpec.post enc Try.prog Try.f5 false true false false) := by
  refine returnsInHanded_of_change (C := Try.checked) own started (by kernel_rfl) Try.func5
    (ChangeSpec.witness6 (enc := enc) (C := Try.checked) false ⟨#[], #[.int .u8 0, .slice none 0 0, .int .u16 0, .int .u8 0, .int .u16 0, .slice none 0 0], []⟩ 8 (by kernel_rfl) (by kernel_rfl) (by kernel_rfl) (by kernel_rfl)) ?_
  intro W base args ds gs before hval0 hW hcnd _
  have hval : ∀ (j : Nat) t v, Try.f5.params[j]? = some t → args[j]? = some v → Value.okWide Try.prog W .any base t v := hval0
  have hW' := hW
  obtain ⟨p, q, hA0, hV, rfl, hfz, hnd⟩ := hW
  have hA : DataW.TrodAll enc Try.prog W 0 (fun _ => true) true Try.f5.params.toList args.toList ds p := hA0
  rw [Try.params5] at hA hval
  obtain ⟨v0, vs0, d0, ds0, p0, q0, hargs, rfl, rfl, h0, r0⟩ := trodAll_cons hA
  obtain ⟨v1, vs1, d1, ds1, p1, q1, rfl, rfl, rfl, h1, r1⟩ := trodAll_cons r0
  obtain ⟨v2, vs2, d2, ds2, p2, q2, rfl, rfl, rfl, h2, r2⟩ := trodAll_cons r1
  obtain ⟨v3, vs3, d3, ds3, p3, q3, rfl, rfl, rfl, h3, r3⟩ := trodAll_cons r2
  obtain ⟨v4, vs4, d4, ds4, p4, q4, rfl, rfl, rfl, h4, r4⟩ := trodAll_cons r3
  obtain ⟨v5, vs5, d5, ds5, p5, q5, rfl, rfl, rfl, h5, r5⟩ := trodAll_cons r4
  obtain ⟨rfl, rfl, rfl⟩ := trodAll_nil r5
  obtain rfl : args = #[v0, v1, v2, v3, v4, v5] := by cases args; simp_all
  obtain ⟨rfl, rfl⟩ := trodVars_none hV
  obtain ⟨a0, rfl, rfl, rfl, w0⟩ := open_int Try.underlying5 (hval 0 5 v0 rfl rfl) h0
  obtain ⟨a1, len1, cap1, rfl⟩ := okWide_slice Try.underlying32 (hval 1 32 v1 rfl rfl)
  have k1 := h1
  have lt1 : ∀ x ∈ p1, x.block < W.heap.size := by obtain ⟨m, hm⟩ := k1; exact DataW.trod_lt m _ _ _ hm
  obtain ⟨z1, w1⟩ : ∃ zs, IsActs W a1 len1 cap1 zs := by
    obtain ⟨fuel, hf⟩ := h1
    obtain ⟨a, l, c, ds, hcs, hds⟩ := acts_of hf
    simp [Value.cells] at hcs
    obtain ⟨rfl, rfl, rfl⟩ := hcs
    exact ⟨ds, hds⟩
  obtain ⟨a2, rfl, rfl, rfl, w2⟩ := open_int Try.underlying26 (hval 2 26 v2 rfl rfl) h2
  obtain ⟨a3, rfl, rfl, rfl, w3⟩ := open_int Try.underlying5 (hval 3 5 v3 rfl rfl) h3
  obtain ⟨a4, rfl, rfl, rfl, w4⟩ := open_int Try.underlying26 (hval 4 26 v4 rfl rfl) h4
  obtain ⟨a5, len5, cap5, rfl⟩ := okWide_slice Try.underlying30 (hval 5 30 v5 rfl rfl)
  have k5 := h5
  have lt5 : ∀ x ∈ p5, x.block < W.heap.size := by obtain ⟨m, hm⟩ := k5; exact DataW.trod_lt m _ _ _ hm
  obtain ⟨z5, w5⟩ : ∃ zs, IsRow .u8 W a5 len5 cap5 zs := by
    obtain ⟨fuel, hf⟩ := h5
    rcases open_ints Try.underlying30 Try.underlying5 (by kernel_rfl) hf with ⟨hcs, _⟩ | ⟨x, l, c, zs, hcs, _, hl, hm, hz, _, hcell, hwz⟩
    · simp [Value.cells] at hcs
      obtain ⟨rfl, rfl, rfl⟩ := hcs
      exact ⟨[], .inl ⟨rfl, rfl, rfl, rfl⟩⟩
    · simp [Value.cells] at hcs
      obtain ⟨rfl, rfl, rfl⟩ := hcs
      exact ⟨zs, .inr ⟨_, rfl, hl, hm, by simpa using hz, hcell, hwz⟩⟩
  clear hA0 hval0
  refine (walk a0 a1 len1 cap1 z1 a2 a3 a4 a5 len5 cap5 z5 W w0 w1 w2 w3 w4 w5).mono fun e W' ⟨he, bel⟩ => ?_
  subst he
  exact ⟨_, rfl, _, _, _, [], _, [], hW', trodAll_mk1 (shut_bool Try.underlying4 _), (trodAll_cons_mk (shut_int Try.underlying5 w0) (trodAll_cons_mk (Below.trod laidOut (by kernel_rfl) (of_decide_eq_true (by kernel_rfl)) k1 bel lt1) (trodAll_cons_mk (shut_int Try.underlying26 w2) (trodAll_cons_mk (shut_int Try.underlying5 w3) (trodAll_cons_mk (shut_int Try.underlying26 w4) (trodAll_cons_mk (Below.trod laidOut (by kernel_rfl) (of_decide_eq_true (by kernel_rfl)) k5 bel lt5) trodAll_mk0)))))), rfl, bel.frame _, fun h => by cases h⟩

theorem over : Rows.messageTurnsRow.holds Try.pinned (OpenSpec.ofChange Rows.messageTurnsSpec) :=
  OpenClaim.holds_of_wide 5 Try.f5 rfl rfl rfl rfl rfl rfl rfl ⟨rfl, rfl, rfl, rfl, rfl⟩ rfl rfl rfl rfl rfl (by kernel_rfl) Try.func5 (by kernel_rfl)
    (of_decide_eq_true (by kernel_rfl)) (by unfold Func.isWrapper; first | (rw [if_pos (by decide +kernel)]; kernel_rfl) | (rw [if_neg (by decide +kernel)]; exact ⟨rfl, rfl⟩))
    (fun os started H enc _ => lifted os started H enc)

theorem proved : Rows.MessageTurnsSaid := over
#print axioms proved
end Go.Proofs.Ytecfblkagbdjlaa.messageTurns
