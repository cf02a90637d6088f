/-
  'For every input the Go function milestonelaw13.MessageBytes returns true, and each argument reads behind the call as it read before.'
  Conditions: none but the row's own (linux/amd64, sizes of what is read within the address space).
-/
import Derived.Test.YtecfblkagbdjlaaRows
import Derived.WalkKit
import Derived.ProofKit
import Derived.OpenShut
import Derived.ShutString
import Derived.ChangeOld
import Derived.Below
import Derived.Lib.SmallJoins
import Derived.Lib.Hide
import Derived.Test.YtecfblkagbdjlaaMu
import Derived.WalkLawsBesides
import Derived.Deep.RegionHeld3
namespace Go.Proofs.Ytecfblkagbdjlaa.messageBytes
open Go.Proofs.Ytecfblkagbdjlaa.Msg
open Coin (Own Rd CoinOwn coin)
open Go.ChangeShapes Go.WideShapes Go.ChangeAt Go.RowKit
open Go.ChangeMaps (open_string shut_string)
set_option linter.unusedVariables false

theorem own : ownKnob Try.prog.godebug = none := by kernel_rfl
theorem laidOut : laidOutB Try.prog = true := by kernel_rfl

set_option maxRecDepth 8000
def nrs (l : List Pt) : List Pt := l.map Pt.near
theorem nrs_len (l : List Pt) : (nrs l).length = l.length := by simp [nrs]
theorem nrs_succ (l : List Pt) (j : Nat) (hj : j < l.length) : nrs (l.take (j + 1)) = nrs (l.take j) ++ [l[j].near] := by
  unfold nrs
  rw [List.take_succ_eq_append_getElem hj, List.map_append]
  rfl
theorem nrs_fits {l : List Pt} (h : ∀ x ∈ l, x.Fits) : ∀ x ∈ nrs l, x.Fits := fun x hx => by
  obtain ⟨y, hy, rfl⟩ := List.mem_map.1 hx
  exact near_fits (h y hy)
theorem nrs_rt (l : List Pt) : ∀ x ∈ nrs l, x.rt = true := fun x hx => by
  obtain ⟨y, hy, rfl⟩ := List.mem_map.1 hx
  exact near_rt y
theorem enc_nrs (f : Nat) (l : List Pt) (hl : l.length ≤ 300) : enc f (nrs l) = sealB ([1] ++ coin f ++ (nrs l).flatMap Pt.bytes) := by
  unfold enc encB
  rw [kept_all (nrs l) (nrs_rt l) (by rw [nrs_len]; exact hl)]
  rfl
theorem dec_nrs (f : Nat) (hf : f < 16) (l : List Pt) (hl : l.length ≤ 300) (h : ∀ x ∈ l, x.Fits) : dec (enc f (nrs l)) = (0, f, nrs l, 0) := by
  rw [dec_enc f hf (nrs l) (nrs_fits h), kept_all (nrs l) (nrs_rt l) (by rw [nrs_len]; exact hl)]

set_option maxHeartbeats 4000000 in
theorem walk (a0 : Int) (a1 : Option Addr) (len1 cap1 : Nat) (z1 : List ActD) (w : World) (w0 : (Lit.int .u8 a0).wf = true) (w1 : IsActs w a1 len1 cap1 z1) :
    Calls Try.prog 4 #[.int .u8 a0, .slice a1 len1 cap1] w fun e w' => e = .returned (.bool true) ∧ Below w.heap.size w w' := by
  have b0 := bounds_u8 w0
  obtain ⟨fr, rfl⟩ := Int.eq_ofNat_of_zero_le b0.1
  obtain ⟨hl1, hl2, hl3, hps, hfit, hcap⟩ := w1
  by_cases h30 : 30 < len1
  · have h30' : (30 : Int) < (len1 : Int) := by omega
    clear hl1 hps hfit hcap hl2 hl3 w0 b0
    go_enter Try.func4, Try.ntmps4
    go_upto_region 2 with (go_at_call 12; (with_reducible refine (awake_any _).mono ?_); (rintro e w1 ⟨rfl, B1⟩; have HB1 := Lib.hid B1; clear B1))
    go_wp2_with (go_at_call 12; (with_reducible refine (awake_any _).mono ?_); (rintro e w2 ⟨rfl, B2⟩; have HB2 := Lib.hid (HB1.out.trans (B2.mono HB1.out.size)); clear B2))
    go_ret
    exact ⟨rfl, HB2.out⟩
  · have h30' : ¬ (30 : Int) < (len1 : Int) := by omega
    have h30n : len1 ≤ 30 := by omega
    obtain ⟨f, hf⟩ : ∃ f, f = fr % 16 := ⟨_, rfl⟩
    have hf16 : f < 16 := by omega
    have hm1 : (fr : Int).tmod 16 = (f : Int) := by rw [Int.tmod_eq_emod_of_nonneg (by omega)]; omega
    have hw1 : IntKind.u8.wrap (f : Int) = f := by rw [IntKind.wrap_u8]; omega
    have hw2 : IntKind.i64.wrap (f : Int) = f := by rw [IntKind.wrap_i64]; omega
    have hw3 : IntKind.u64.wrap (f : Int) = f := by rw [wrap_u64]; omega
    have HCo : Hid (∀ W, Calls Try.prog 15 #[.int .u64 (f : Int)] W (CoinOwn W (coin f))) := fun W => Coin.rcoin_own f (by omega) W
    have HZ := Lib.hid (And.intro hl1 (And.intro hps (And.intro hfit hcap)))
    have hsz := Coin.sz_le f
    have hcl : (coin f).length ≤ 9 := by rw [Coin.length_coin]; omega
    have HCL := Lib.hid hcl
    clear hl1 hps hfit hcap hf w0 b0 h30 hsz hcl
    go_enter Try.func4, Try.ntmps4
    go_upto_region 3 with (go_at_call 12; (with_reducible refine (awake_any _).mono ?_); (rintro e w1 ⟨rfl, B1⟩; have HB1 := Lib.hid B1; clear B1))
    have HM0 := Lib.hid (Ms.start f w1 [1] (by decide) #[.int .u8 1] rfl)
    go_upto_region 5 with (first
      | (go_at_call 15; (with_reducible refine (HCo.out _).mono ?_); (rintro e w4 ⟨v4, rfl, O4, B4⟩; obtain ⟨A4, c4, hv4, R4, -, hn4⟩ := O4.form; obtain ⟨m4, hm4⟩ : ∃ m, m = (coin f).length := ⟨_, rfl⟩; rw [← hm4] at hv4; subst hv4; have HM4 := Lib.hid (And.intro (show Ms f w1 w4 (.slice none 0 0) (.slice (some ⟨w1.heap.size + 1, 0, none⟩) 1 1) [] [1] from HM0.out.step B4) (And.intro R4 (And.intro hm4 hn4))); clear O4 B4 R4 hm4 hn4))
      | (at_builtin; (with_reducible refine Coin.app_any rfl (.tmp 25) (.tmp 29) rfl (w1.heap.size + 1) (.slice (some ⟨w1.heap.size + 1, 0, none⟩) 1 1) [1] (coin f) A4 m4 c4 _ rfl rfl HM4.out.1.ro HM4.out.2.1 HM4.out.2.2.1 HM4.out.2.2.2 (by have := HCL.out; simp; omega) HM4.out.1.le (w1.heap.size + 1) w4 (Below.refl w4.heap.size w4 |>.mono HM4.out.1.le) (Nat.le_refl _) ?_); (intro v5 w5 O5 B5 G5; have HM5 := Lib.hid (HM4.out.1.more O5 G5); clear O5 B5 G5)))
    clear HM0 HM4
    go_wp2
    go_loopw [6, 7] (fun r i wr => ∃ j : Nat, j ≤ len1 ∧ i = .int .i64 j ∧ ∃ vp, Hid (Ms f w1 wr vp r (nrs (z1.take j)) ([1] ++ coin f ++ (nrs (z1.take j)).flatMap Pt.bytes))) (fun _ i _ => len1 - (intOf i).toNat)
    case atStart => exact ⟨0, by omega, rfl, _, by
      have h := HM5.out
      show Ms f w1 w5 _ v5 (nrs (z1.take 0)) ([1] ++ coin f ++ (nrs (z1.take 0)).flatMap Pt.bytes)
      simp only [List.take_zero, nrs, List.map_nil, List.flatMap_nil, List.append_nil]
      exact h⟩
    case round =>
      obtain ⟨j, hj, rfl, vp, HM⟩ := hrel
      clear HM5
      obtain ⟨Ar, cr, hvr, -, -, -⟩ := HM.out.ro.form
      obtain ⟨Ap, cp, hvp, -⟩ := HM.out.po.form
      by_cases hlt : j < len1
      · have hjl : j < z1.length := by rw [← HZ.out.1]; exact hlt
        have hns := nrs_succ z1 j hjl
        have hfl : [1] ++ coin f ++ (nrs (z1.take (j + 1))).flatMap Pt.bytes = ([1] ++ coin f ++ (nrs (z1.take j)).flatMap Pt.bytes) ++ (z1[j].near).bytes := by rw [hns, List.flatMap_append]; simp
        obtain ⟨bb, oo, ea, hbb, hc0⟩ := HZ.out.2.1 j hjl
        subst ea
        have hxf := HZ.out.2.2.1 _ (List.getElem_mem hjl)
        have hyf := near_fits hxf
        have hne := fun W => near_any z1[j] hxf W
        have hby := fun W => rbytes_any (z1[j].near) hyf (near_rt _) W
        generalize z1[j].near = y at *
        generalize z1[j] = x at *
        have HNe : Hid (∀ W, Calls Try.prog 8 #[.agg #[.int .u8 (x.K : Int), .int .u64 (x.N : Int), .int .i64 x.Nd, .int .u32 (x.A : Int), .int .u8 (x.L : Int), .int .u16 (x.Sq : Int), .int .u16 (x.M : Int)]] W fun e w' => e = .returned (.agg #[.int .u8 (y.K : Int), .int .u64 (y.N : Int), .int .i64 y.Nd, .int .u32 (y.A : Int), .int .u8 (y.L : Int), .int .u16 (y.Sq : Int), .int .u16 (y.M : Int)]) ∧ Below W.heap.size W w') := hne
        have HBy : Hid (∀ W, Calls Try.prog 11 #[.agg #[.int .u8 (y.K : Int), .int .u64 (y.N : Int), .int .i64 y.Nd, .int .u32 (y.A : Int), .int .u8 (y.L : Int), .int .u16 (y.Sq : Int), .int .u16 (y.M : Int)]] W (CoinOwn W y.bytes)) := hby
        have HPA : Hid (∀ W, Below w.heap.size w W → PAt W bb (oo + j * 7) x) := fun W h => hc0.keep (h.block bb hbb)
        have hll := flat_len (nrs (z1.take j))
        have hxl : (nrs (z1.take j)).length ≤ 30 := by rw [nrs_len, List.length_take]; omega
        have hrl : ([1] ++ coin f ++ (nrs (z1.take j)).flatMap Pt.bytes).length ≤ 20000 := by have := HCL.out; simp only [List.length_append, List.length_cons, List.length_nil]; omega
        have HNX := Lib.hid (And.intro hns hfl)
        generalize hxs : nrs (z1.take j) = xs at *
        generalize hrb : [1] ++ coin f ++ xs.flatMap Pt.bytes = rb at *
        obtain ⟨np, hnp⟩ : ∃ np, np = xs.length := ⟨_, rfl⟩
        obtain ⟨mr, hmr⟩ : ∃ mr, mr = rb.length := ⟨_, rfl⟩
        rw [← hnp] at hvp
        rw [← hmr] at hvr
        have HXS := Lib.hid (And.intro hxl hrl)
        clear hne hby hc0 hll hxl hrl hns hfl hxf hyf hjl hnp hmr hbb hxs hrb
        subst hvp hvr
        go_upto_region 8 with (fail)
        refine wp_region_noPanic ?_
        refine wp_region_held_drew (S := fun W : World => Below w.heap.size w W) (by kernel_rfl) ((HB1.out.trans (HM.out.bl.mono HB1.out.size)).drew) (fun hHeld => ?_)
        replace HM := Lib.hid (HM.out.step (Below.refl wr.heap.size wr).drew)
        generalize wr.drew = wd at *
        refine wpAnyH_take (i := 0) (oi := { dst := some 37, op := Op.fieldAddr 34 (Operand.tmp 5) 1, type := 0, pos := "law.go:89", after := #[], guard := none }) (v := .pointer (some ⟨w1.heap.size, 1, none⟩)) rfl (by kernel_rfl) (by kernel_rfl) (by kernel_rfl) (fun _ _ _ h => h) (Or.inl ⟨by rfl, fun w hSw => by go_simp⟩) (by assumption) ?_
        try simp only [Act.put, List.setIfInBounds_toArray, List.set_cons_zero, List.set_cons_succ]
        refine wpAnyH_take (i := 2) (oi := { dst := some 39, op := Op.move (Operand.tmp 1), type := 32, pos := "law.go:89", after := #[], guard := none }) (v := .slice (some ⟨bb, oo, none⟩) len1 cap1) rfl (by kernel_rfl) (by kernel_rfl) (by kernel_rfl) (fun _ _ _ h => h) (Or.inl ⟨by rfl, fun w hSw => by go_simp⟩) (by assumption) ?_
        try simp only [Act.put, List.setIfInBounds_toArray, List.set_cons_zero, List.set_cons_succ]
        refine wpAnyH_take (i := 3) (oi := { dst := some 40, op := Op.move (Operand.tmp 7), type := 3, pos := "law.go:89", after := #[], guard := none }) (v := .int .i64 (j : Int)) rfl (by kernel_rfl) (by kernel_rfl) (by kernel_rfl) (fun _ _ _ h => h) (Or.inl ⟨by rfl, fun w hSw => by go_simp⟩) (by assumption) ?_
        try simp only [Act.put, List.setIfInBounds_toArray, List.set_cons_zero, List.set_cons_succ]
        refine wpAnyH_take (i := 4) (oi := { dst := some 41, op := Op.indexAddr 32 (Operand.tmp 39) (Operand.tmp 40), type := 0, pos := "law.go:89", after := #[{ on := 2, ground := Ground.data }, { on := 3, ground := Ground.data }], guard := none }) (v := .pointer (some ⟨bb, oo + j * 7, none⟩)) rfl (by kernel_rfl) (by kernel_rfl) (by kernel_rfl) (fun _ _ _ h => h) (Or.inl ⟨by rfl, fun w hSw => by go_simp⟩) (by assumption) ?_
        try simp only [Act.put, List.setIfInBounds_toArray, List.set_cons_zero, List.set_cons_succ]
        refine wpAnyH_take (i := 5) (oi := { dst := some 42, op := Op.load 28 (Operand.tmp 41), type := 28, pos := "law.go:89", after := #[{ on := 4, ground := Ground.data }], guard := none }) (v := .agg #[.int .u8 (x.K : Int), .int .u64 (x.N : Int), .int .i64 x.Nd, .int .u32 (x.A : Int), .int .u8 (x.L : Int), .int .u16 (x.Sq : Int), .int .u16 (x.M : Int)]) rfl (by kernel_rfl) (by kernel_rfl) (by kernel_rfl) (fun _ _ _ h => h) (Or.inl ⟨by rfl, fun w hSw => by obtain ⟨k0, k1, k2, k3, k4, k5, k6⟩ := HPA.out _ hSw; go_simp⟩) (by assumption) ?_
        try simp only [Act.put, List.setIfInBounds_toArray, List.set_cons_zero, List.set_cons_succ]
        refine wpAnyH_ready (rs := [1, 6]) (by kernel_rfl) (by simp) ?_
        refine (AllReadyH.cons (o := { dst := some 38, op := Op.load 32 (Operand.tmp 37), type := 32, pos := "law.go:89", after := #[{ on := 0, ground := Ground.data }], guard := none }) rfl (fun K hK => ?_) (AllReadyH.cons (o := { dst := some 43, op := Op.call { callee := Callee.value (Operand.func 8), args := #[Operand.tmp 42], argTypes := #[28] }, type := 28, pos := "law.go:89", after := #[{ on := 5, ground := Ground.data }], guard := none }) rfl (fun K hK => ?_) AllReadyH.nil))
        · obtain ⟨⟨q0, q1⟩, -, -⟩ := row2b HM.out.row
          go_simp
          refine hK.out _ _ (hHeld) (fun hHeld => ?_)
          clear hK K
          try simp only [Act.put, List.setIfInBounds_toArray, List.set_cons_zero, List.set_cons_succ]
          clear q0 q1
          refine wpAnyH_ready (rs := [6]) (by kernel_rfl) (by simp) ?_
          refine AllReadyH.cons (o := { dst := some 43, op := Op.call { callee := Callee.value (Operand.func 8), args := #[Operand.tmp 42], argTypes := #[28] }, type := 28, pos := "law.go:89", after := #[{ on := 5, ground := Ground.data }], guard := none }) rfl (fun K hK => ?_) AllReadyH.nil
          go_simp
          with_reducible refine (HNe.out _).mono ?_
          rintro e wd ⟨rfl, B6⟩
          have hb := hHeld.trans (B6.mono hHeld.size)
          replace HM := Lib.hid (HM.out.step B6)
          clear B6
          refine hK.out _ _ (hb) (fun hHeld => ?_)
          clear hK K
          try simp only [Act.put, List.setIfInBounds_toArray, List.set_cons_zero, List.set_cons_succ]
          clear hb
          refine wpAnyH_ready (rs := [7]) (by kernel_rfl) (by simp) ?_
          refine AllReadyH.cons (o := { dst := some 44, op := Op.buildSlice 32 1 #[(0, Operand.tmp 43)], type := 32, pos := "law.go:89", after := #[{ on := 6, ground := Ground.data }], guard := none }) rfl (fun K hK => ?_) AllReadyH.nil
          go_simp
          have B7 := (Below.refl wd.heap.size wd).alloc (Nat.le_refl _) (.cells #[.int .u8 (y.K : Int), .int .u64 (y.N : Int), .int .i64 y.Nd, .int .u32 (y.A : Int), .int .u8 (y.L : Int), .int .u16 (y.Sq : Int), .int .u16 (y.M : Int)] 28)
          have hcp := cells_pt wd y wd.heap.size rfl #[.int .u8 (y.K : Int), .int .u64 (y.N : Int), .int .i64 y.Nd, .int .u32 (y.A : Int), .int .u8 (y.L : Int), .int .u16 (y.Sq : Int), .int .u16 (y.M : Int)] rfl
          have hb := hHeld.trans (B7.mono hHeld.size)
          replace HM := Lib.hid (HM.out.step B7)
          obtain ⟨vb, hvb⟩ : ∃ vb, vb = wd.heap.size := ⟨_, rfl⟩
          rw [← hvb] at hcp ⊢
          have HCP := Lib.hid hcp
          clear hvb hcp B7
          generalize wd.alloc _ = wd at *
          refine hK.out _ _ (hb) (fun hHeld => ?_)
          clear hK K
          try simp only [Act.put, List.setIfInBounds_toArray, List.set_cons_zero, List.set_cons_succ]
          clear hb
          refine wpAnyH_ready (rs := [8]) (by kernel_rfl) (by simp) ?_
          refine AllReadyH.cons (o := { dst := some 45, op := Op.call { callee := Callee.builtin Builtin.append, args := #[Operand.tmp 38, Operand.tmp 44], argTypes := #[32, 32] }, type := 32, pos := "law.go:89", after := #[{ on := 1, ground := Ground.data }, { on := 7, ground := Ground.data }, { on := 6, ground := Ground.chain }], guard := none }) rfl (fun K hK => ?_) AllReadyH.nil
          obtain ⟨v8, w8, hrun, O8, G8⟩ := app_pt_run (w := wd) (w1.heap.size + 1) (.slice Ap np cp) xs y vb HM.out.po HCP.out (by have := HXS.out.1; omega) HM.out.lt
          refine Lib.wp_append_run _ (.tmp 38) (.tmp 44) 32 32 rfl _ _ rfl rfl _ _ hrun ?_
          have hb8 := hHeld.grown G8 hHeld.size (fun k h => by have := (HM.out.po.lt k h).1; have := HB1.out.size; omega)
          have hr8 := (G8.block _ HM.out.lt (fun e => by have := (HM.out.po.lt _ e.symm).1; omega)).trans HM.out.row
          have HM8 := Lib.hid (HM.out.part O8 G8)
          obtain ⟨A8, c8, hv8, -⟩ := O8.form
          obtain ⟨n8, hn8⟩ : ∃ n8, n8 = (xs ++ [y]).length := ⟨_, rfl⟩
          rw [← hn8] at hv8
          subst hv8
          have HN8 := Lib.hid hn8
          refine hK.out _ _ hb8 (fun hHeld => ?_)
          clear hK K hn8 hb8 hrun O8 G8
          try simp only [Act.put, List.setIfInBounds_toArray, List.set_cons_zero, List.set_cons_succ]
          refine wpAnyH_take (i := 9) (oi := { dst := some 46, op := Op.fieldAddr 34 (Operand.tmp 5) 1, type := 0, pos := "law.go:89", after := #[{ on := 0, ground := Ground.phase }, { on := 1, ground := Ground.phase }, { on := 2, ground := Ground.phase }, { on := 3, ground := Ground.phase }, { on := 4, ground := Ground.phase }, { on := 5, ground := Ground.phase }, { on := 6, ground := Ground.phase }, { on := 7, ground := Ground.phase }, { on := 8, ground := Ground.phase }], guard := none }) (v := .pointer (some ⟨w1.heap.size, 1, none⟩)) rfl (by kernel_rfl) (by kernel_rfl) (by kernel_rfl) (fun _ _ _ h => h) (Or.inl ⟨by rfl, fun w hSw => by go_simp⟩) (by assumption) ?_
          try simp only [Act.put, List.setIfInBounds_toArray, List.set_cons_zero, List.set_cons_succ]
          refine wpAnyH_ready (rs := [10]) (by kernel_rfl) (by simp) ?_
          refine AllReadyH.cons (o := { dst := none, op := Op.store 32 (Operand.tmp 46) (Operand.tmp 45), type := 0, pos := "law.go:89", after := #[{ on := 9, ground := Ground.data }, { on := 8, ground := Ground.data }, { on := 8, ground := Ground.chain }, { on := 0, ground := Ground.phase }, { on := 1, ground := Ground.phase }, { on := 2, ground := Ground.phase }, { on := 3, ground := Ground.phase }, { on := 4, ground := Ground.phase }, { on := 5, ground := Ground.phase }, { on := 6, ground := Ground.phase }, { on := 7, ground := Ground.phase }, { on := 8, ground := Ground.phase }], guard := none }) rfl (fun K hK => ?_) AllReadyH.nil
          obtain ⟨⟨g0, g1⟩, f5, f6⟩ := row2b hr8
          have e8 : w1.heap.size < w8.heap.size := (Array.getElem?_eq_some_iff.1 hr8).1
          go_simp
          refine hK.out _ _ ((hHeld.setCell (p := ⟨w1.heap.size, 1, none⟩) HB1.out.size _)) (fun hHeld => ?_)
          clear hK K
          try simp only [Act.put, List.setIfInBounds_toArray, List.set_cons_zero, List.set_cons_succ]
          clear g0 g1 f5 f6 e8 hr8
          clear hHeld HM
          replace HM8 := HM8
          refine wpAnyH_done (by kernel_rfl) ?_ _
          try unfold NoPanic
          generalize World.setCell _ _ _ = w9 at *
          have hb9 := HB1.out.trans (HM8.out.bl.mono HB1.out.size)
          have hb9s := HM8.out.lt
          obtain ⟨k0, k1, k2, k3, k4, k5, k6⟩ := HPA.out w9 hb9
          have HB9 := Lib.hid hb9
          clear hb9
          go_wp2_with (first
            | (go_at_call 8; (with_reducible refine (HNe.out _).mono ?_); (rintro e w10 ⟨rfl, B10⟩; have HM10 := Lib.hid (HM8.out.step B10); clear B10))
            | (go_at_call 11; (with_reducible refine (HBy.out _).mono ?_); (rintro e w11 ⟨v11, rfl, O11, B11⟩; obtain ⟨A11, c11, hv11, R11, -, hn11⟩ := O11.form; obtain ⟨m11, hm11⟩ : ∃ m, m = y.bytes.length := ⟨_, rfl⟩; rw [← hm11] at hv11; subst hv11; have HM11 := Lib.hid (And.intro (HM10.out.step B11) (And.intro R11 (And.intro hm11 hn11))); clear O11 B11 R11 hm11 hn11))
            | (at_builtin; (with_reducible refine Coin.app_any rfl (.tmp 47) (.tmp 53) rfl (w1.heap.size + 1) (.slice Ar mr cr) rb y.bytes A11 m11 c11 _ rfl rfl HM11.out.1.ro HM11.out.2.1 HM11.out.2.2.1 HM11.out.2.2.2 (by have h1 := HXS.out.2; have h2 := y.bytes_len; omega) HM11.out.1.le (w1.heap.size + 1) w11 (Below.refl w11.heap.size w11 |>.mono HM11.out.1.le) (Nat.le_refl _) ?_); (intro v12 w12 O12 B12 G12; have HM12 := Lib.hid (HM11.out.1.more O12 G12); clear O12 B12 G12)))
          go_roundw
          case rel =>
            have h := HM12.out
            rw [← HNX.out.1, ← HNX.out.2] at h
            exact ⟨j + 1, by omega, by go_num, _, h⟩
          case measure => simp [intOf]; omega
        · go_simp
          with_reducible refine (HNe.out _).mono ?_
          rintro e wd ⟨rfl, B6⟩
          have hb := hHeld.trans (B6.mono hHeld.size)
          replace HM := Lib.hid (HM.out.step B6)
          clear B6
          refine hK.out _ _ (hb) (fun hHeld => ?_)
          clear hK K
          try simp only [Act.put, List.setIfInBounds_toArray, List.set_cons_zero, List.set_cons_succ]
          clear hb
          refine wpAnyH_ready (rs := [1, 7]) (by kernel_rfl) (by simp) ?_
          refine (AllReadyH.cons (o := { dst := some 38, op := Op.load 32 (Operand.tmp 37), type := 32, pos := "law.go:89", after := #[{ on := 0, ground := Ground.data }], guard := none }) rfl (fun K hK => ?_) (AllReadyH.cons (o := { dst := some 44, op := Op.buildSlice 32 1 #[(0, Operand.tmp 43)], type := 32, pos := "law.go:89", after := #[{ on := 6, ground := Ground.data }], guard := none }) rfl (fun K hK => ?_) AllReadyH.nil))
          · obtain ⟨⟨q0, q1⟩, -, -⟩ := row2b HM.out.row
            go_simp
            refine hK.out _ _ (hHeld) (fun hHeld => ?_)
            clear hK K
            try simp only [Act.put, List.setIfInBounds_toArray, List.set_cons_zero, List.set_cons_succ]
            clear q0 q1
            refine wpAnyH_ready (rs := [7]) (by kernel_rfl) (by simp) ?_
            refine AllReadyH.cons (o := { dst := some 44, op := Op.buildSlice 32 1 #[(0, Operand.tmp 43)], type := 32, pos := "law.go:89", after := #[{ on := 6, ground := Ground.data }], guard := none }) rfl (fun K hK => ?_) AllReadyH.nil
            go_simp
            have B7 := (Below.refl wd.heap.size wd).alloc (Nat.le_refl _) (.cells #[.int .u8 (y.K : Int), .int .u64 (y.N : Int), .int .i64 y.Nd, .int .u32 (y.A : Int), .int .u8 (y.L : Int), .int .u16 (y.Sq : Int), .int .u16 (y.M : Int)] 28)
            have hcp := cells_pt wd y wd.heap.size rfl #[.int .u8 (y.K : Int), .int .u64 (y.N : Int), .int .i64 y.Nd, .int .u32 (y.A : Int), .int .u8 (y.L : Int), .int .u16 (y.Sq : Int), .int .u16 (y.M : Int)] rfl
            have hb := hHeld.trans (B7.mono hHeld.size)
            replace HM := Lib.hid (HM.out.step B7)
            obtain ⟨vb, hvb⟩ : ∃ vb, vb = wd.heap.size := ⟨_, rfl⟩
            rw [← hvb] at hcp ⊢
            have HCP := Lib.hid hcp
            clear hvb hcp B7
            generalize wd.alloc _ = wd at *
            refine hK.out _ _ (hb) (fun hHeld => ?_)
            clear hK K
            try simp only [Act.put, List.setIfInBounds_toArray, List.set_cons_zero, List.set_cons_succ]
            clear hb
            refine wpAnyH_ready (rs := [8]) (by kernel_rfl) (by simp) ?_
            refine AllReadyH.cons (o := { dst := some 45, op := Op.call { callee := Callee.builtin Builtin.append, args := #[Operand.tmp 38, Operand.tmp 44], argTypes := #[32, 32] }, type := 32, pos := "law.go:89", after := #[{ on := 1, ground := Ground.data }, { on := 7, ground := Ground.data }, { on := 6, ground := Ground.chain }], guard := none }) rfl (fun K hK => ?_) AllReadyH.nil
            obtain ⟨v8, w8, hrun, O8, G8⟩ := app_pt_run (w := wd) (w1.heap.size + 1) (.slice Ap np cp) xs y vb HM.out.po HCP.out (by have := HXS.out.1; omega) HM.out.lt
            refine Lib.wp_append_run _ (.tmp 38) (.tmp 44) 32 32 rfl _ _ rfl rfl _ _ hrun ?_
            have hb8 := hHeld.grown G8 hHeld.size (fun k h => by have := (HM.out.po.lt k h).1; have := HB1.out.size; omega)
            have hr8 := (G8.block _ HM.out.lt (fun e => by have := (HM.out.po.lt _ e.symm).1; omega)).trans HM.out.row
            have HM8 := Lib.hid (HM.out.part O8 G8)
            obtain ⟨A8, c8, hv8, -⟩ := O8.form
            obtain ⟨n8, hn8⟩ : ∃ n8, n8 = (xs ++ [y]).length := ⟨_, rfl⟩
            rw [← hn8] at hv8
            subst hv8
            have HN8 := Lib.hid hn8
            refine hK.out _ _ hb8 (fun hHeld => ?_)
            clear hK K hn8 hb8 hrun O8 G8
            try simp only [Act.put, List.setIfInBounds_toArray, List.set_cons_zero, List.set_cons_succ]
            refine wpAnyH_take (i := 9) (oi := { dst := some 46, op := Op.fieldAddr 34 (Operand.tmp 5) 1, type := 0, pos := "law.go:89", after := #[{ on := 0, ground := Ground.phase }, { on := 1, ground := Ground.phase }, { on := 2, ground := Ground.phase }, { on := 3, ground := Ground.phase }, { on := 4, ground := Ground.phase }, { on := 5, ground := Ground.phase }, { on := 6, ground := Ground.phase }, { on := 7, ground := Ground.phase }, { on := 8, ground := Ground.phase }], guard := none }) (v := .pointer (some ⟨w1.heap.size, 1, none⟩)) rfl (by kernel_rfl) (by kernel_rfl) (by kernel_rfl) (fun _ _ _ h => h) (Or.inl ⟨by rfl, fun w hSw => by go_simp⟩) (by assumption) ?_
            try simp only [Act.put, List.setIfInBounds_toArray, List.set_cons_zero, List.set_cons_succ]
            refine wpAnyH_ready (rs := [10]) (by kernel_rfl) (by simp) ?_
            refine AllReadyH.cons (o := { dst := none, op := Op.store 32 (Operand.tmp 46) (Operand.tmp 45), type := 0, pos := "law.go:89", after := #[{ on := 9, ground := Ground.data }, { on := 8, ground := Ground.data }, { on := 8, ground := Ground.chain }, { on := 0, ground := Ground.phase }, { on := 1, ground := Ground.phase }, { on := 2, ground := Ground.phase }, { on := 3, ground := Ground.phase }, { on := 4, ground := Ground.phase }, { on := 5, ground := Ground.phase }, { on := 6, ground := Ground.phase }, { on := 7, ground := Ground.phase }, { on := 8, ground := Ground.phase }], guard := none }) rfl (fun K hK => ?_) AllReadyH.nil
            obtain ⟨⟨g0, g1⟩, f5, f6⟩ := row2b hr8
            have e8 : w1.heap.size < w8.heap.size := (Array.getElem?_eq_some_iff.1 hr8).1
            go_simp
            refine hK.out _ _ ((hHeld.setCell (p := ⟨w1.heap.size, 1, none⟩) HB1.out.size _)) (fun hHeld => ?_)
            clear hK K
            try simp only [Act.put, List.setIfInBounds_toArray, List.set_cons_zero, List.set_cons_succ]
            clear g0 g1 f5 f6 e8 hr8
            clear hHeld HM
            replace HM8 := HM8
            refine wpAnyH_done (by kernel_rfl) ?_ _
            try unfold NoPanic
            generalize World.setCell _ _ _ = w9 at *
            have hb9 := HB1.out.trans (HM8.out.bl.mono HB1.out.size)
            have hb9s := HM8.out.lt
            obtain ⟨k0, k1, k2, k3, k4, k5, k6⟩ := HPA.out w9 hb9
            have HB9 := Lib.hid hb9
            clear hb9
            go_wp2_with (first
              | (go_at_call 8; (with_reducible refine (HNe.out _).mono ?_); (rintro e w10 ⟨rfl, B10⟩; have HM10 := Lib.hid (HM8.out.step B10); clear B10))
              | (go_at_call 11; (with_reducible refine (HBy.out _).mono ?_); (rintro e w11 ⟨v11, rfl, O11, B11⟩; obtain ⟨A11, c11, hv11, R11, -, hn11⟩ := O11.form; obtain ⟨m11, hm11⟩ : ∃ m, m = y.bytes.length := ⟨_, rfl⟩; rw [← hm11] at hv11; subst hv11; have HM11 := Lib.hid (And.intro (HM10.out.step B11) (And.intro R11 (And.intro hm11 hn11))); clear O11 B11 R11 hm11 hn11))
              | (at_builtin; (with_reducible refine Coin.app_any rfl (.tmp 47) (.tmp 53) rfl (w1.heap.size + 1) (.slice Ar mr cr) rb y.bytes A11 m11 c11 _ rfl rfl HM11.out.1.ro HM11.out.2.1 HM11.out.2.2.1 HM11.out.2.2.2 (by have h1 := HXS.out.2; have h2 := y.bytes_len; omega) HM11.out.1.le (w1.heap.size + 1) w11 (Below.refl w11.heap.size w11 |>.mono HM11.out.1.le) (Nat.le_refl _) ?_); (intro v12 w12 O12 B12 G12; have HM12 := Lib.hid (HM11.out.1.more O12 G12); clear O12 B12 G12)))
            go_roundw
            case rel =>
              have h := HM12.out
              rw [← HNX.out.1, ← HNX.out.2] at h
              exact ⟨j + 1, by omega, by go_num, _, h⟩
            case measure => simp [intOf]; omega
          · go_simp
            have B7 := (Below.refl wd.heap.size wd).alloc (Nat.le_refl _) (.cells #[.int .u8 (y.K : Int), .int .u64 (y.N : Int), .int .i64 y.Nd, .int .u32 (y.A : Int), .int .u8 (y.L : Int), .int .u16 (y.Sq : Int), .int .u16 (y.M : Int)] 28)
            have hcp := cells_pt wd y wd.heap.size rfl #[.int .u8 (y.K : Int), .int .u64 (y.N : Int), .int .i64 y.Nd, .int .u32 (y.A : Int), .int .u8 (y.L : Int), .int .u16 (y.Sq : Int), .int .u16 (y.M : Int)] rfl
            have hb := hHeld.trans (B7.mono hHeld.size)
            replace HM := Lib.hid (HM.out.step B7)
            obtain ⟨vb, hvb⟩ : ∃ vb, vb = wd.heap.size := ⟨_, rfl⟩
            rw [← hvb] at hcp ⊢
            have HCP := Lib.hid hcp
            clear hvb hcp B7
            generalize wd.alloc _ = wd at *
            refine hK.out _ _ (hb) (fun hHeld => ?_)
            clear hK K
            try simp only [Act.put, List.setIfInBounds_toArray, List.set_cons_zero, List.set_cons_succ]
            clear hb
            refine wpAnyH_ready (rs := [1]) (by kernel_rfl) (by simp) ?_
            refine AllReadyH.cons (o := { dst := some 38, op := Op.load 32 (Operand.tmp 37), type := 32, pos := "law.go:89", after := #[{ on := 0, ground := Ground.data }], guard := none }) rfl (fun K hK => ?_) AllReadyH.nil
            obtain ⟨⟨q0, q1⟩, -, -⟩ := row2b HM.out.row
            go_simp
            refine hK.out _ _ (hHeld) (fun hHeld => ?_)
            clear hK K
            try simp only [Act.put, List.setIfInBounds_toArray, List.set_cons_zero, List.set_cons_succ]
            clear q0 q1
            refine wpAnyH_ready (rs := [8]) (by kernel_rfl) (by simp) ?_
            refine AllReadyH.cons (o := { dst := some 45, op := Op.call { callee := Callee.builtin Builtin.append, args := #[Operand.tmp 38, Operand.tmp 44], argTypes := #[32, 32] }, type := 32, pos := "law.go:89", after := #[{ on := 1, ground := Ground.data }, { on := 7, ground := Ground.data }, { on := 6, ground := Ground.chain }], guard := none }) rfl (fun K hK => ?_) AllReadyH.nil
            obtain ⟨v8, w8, hrun, O8, G8⟩ := app_pt_run (w := wd) (w1.heap.size + 1) (.slice Ap np cp) xs y vb HM.out.po HCP.out (by have := HXS.out.1; omega) HM.out.lt
            refine Lib.wp_append_run _ (.tmp 38) (.tmp 44) 32 32 rfl _ _ rfl rfl _ _ hrun ?_
            have hb8 := hHeld.grown G8 hHeld.size (fun k h => by have := (HM.out.po.lt k h).1; have := HB1.out.size; omega)
            have hr8 := (G8.block _ HM.out.lt (fun e => by have := (HM.out.po.lt _ e.symm).1; omega)).trans HM.out.row
            have HM8 := Lib.hid (HM.out.part O8 G8)
            obtain ⟨A8, c8, hv8, -⟩ := O8.form
            obtain ⟨n8, hn8⟩ : ∃ n8, n8 = (xs ++ [y]).length := ⟨_, rfl⟩
            rw [← hn8] at hv8
            subst hv8
            have HN8 := Lib.hid hn8
            refine hK.out _ _ hb8 (fun hHeld => ?_)
            clear hK K hn8 hb8 hrun O8 G8
            try simp only [Act.put, List.setIfInBounds_toArray, List.set_cons_zero, List.set_cons_succ]
            refine wpAnyH_take (i := 9) (oi := { dst := some 46, op := Op.fieldAddr 34 (Operand.tmp 5) 1, type := 0, pos := "law.go:89", after := #[{ on := 0, ground := Ground.phase }, { on := 1, ground := Ground.phase }, { on := 2, ground := Ground.phase }, { on := 3, ground := Ground.phase }, { on := 4, ground := Ground.phase }, { on := 5, ground := Ground.phase }, { on := 6, ground := Ground.phase }, { on := 7, ground := Ground.phase }, { on := 8, ground := Ground.phase }], guard := none }) (v := .pointer (some ⟨w1.heap.size, 1, none⟩)) rfl (by kernel_rfl) (by kernel_rfl) (by kernel_rfl) (fun _ _ _ h => h) (Or.inl ⟨by rfl, fun w hSw => by go_simp⟩) (by assumption) ?_
            try simp only [Act.put, List.setIfInBounds_toArray, List.set_cons_zero, List.set_cons_succ]
            refine wpAnyH_ready (rs := [10]) (by kernel_rfl) (by simp) ?_
            refine AllReadyH.cons (o := { dst := none, op := Op.store 32 (Operand.tmp 46) (Operand.tmp 45), type := 0, pos := "law.go:89", after := #[{ on := 9, ground := Ground.data }, { on := 8, ground := Ground.data }, { on := 8, ground := Ground.chain }, { on := 0, ground := Ground.phase }, { on := 1, ground := Ground.phase }, { on := 2, ground := Ground.phase }, { on := 3, ground := Ground.phase }, { on := 4, ground := Ground.phase }, { on := 5, ground := Ground.phase }, { on := 6, ground := Ground.phase }, { on := 7, ground := Ground.phase }, { on := 8, ground := Ground.phase }], guard := none }) rfl (fun K hK => ?_) AllReadyH.nil
            obtain ⟨⟨g0, g1⟩, f5, f6⟩ := row2b hr8
            have e8 : w1.heap.size < w8.heap.size := (Array.getElem?_eq_some_iff.1 hr8).1
            go_simp
            refine hK.out _ _ ((hHeld.setCell (p := ⟨w1.heap.size, 1, none⟩) HB1.out.size _)) (fun hHeld => ?_)
            clear hK K
            try simp only [Act.put, List.setIfInBounds_toArray, List.set_cons_zero, List.set_cons_succ]
            clear g0 g1 f5 f6 e8 hr8
            clear hHeld HM
            replace HM8 := HM8
            refine wpAnyH_done (by kernel_rfl) ?_ _
            try unfold NoPanic
            generalize World.setCell _ _ _ = w9 at *
            have hb9 := HB1.out.trans (HM8.out.bl.mono HB1.out.size)
            have hb9s := HM8.out.lt
            obtain ⟨k0, k1, k2, k3, k4, k5, k6⟩ := HPA.out w9 hb9
            have HB9 := Lib.hid hb9
            clear hb9
            go_wp2_with (first
              | (go_at_call 8; (with_reducible refine (HNe.out _).mono ?_); (rintro e w10 ⟨rfl, B10⟩; have HM10 := Lib.hid (HM8.out.step B10); clear B10))
              | (go_at_call 11; (with_reducible refine (HBy.out _).mono ?_); (rintro e w11 ⟨v11, rfl, O11, B11⟩; obtain ⟨A11, c11, hv11, R11, -, hn11⟩ := O11.form; obtain ⟨m11, hm11⟩ : ∃ m, m = y.bytes.length := ⟨_, rfl⟩; rw [← hm11] at hv11; subst hv11; have HM11 := Lib.hid (And.intro (HM10.out.step B11) (And.intro R11 (And.intro hm11 hn11))); clear O11 B11 R11 hm11 hn11))
              | (at_builtin; (with_reducible refine Coin.app_any rfl (.tmp 47) (.tmp 53) rfl (w1.heap.size + 1) (.slice Ar mr cr) rb y.bytes A11 m11 c11 _ rfl rfl HM11.out.1.ro HM11.out.2.1 HM11.out.2.2.1 HM11.out.2.2.2 (by have h1 := HXS.out.2; have h2 := y.bytes_len; omega) HM11.out.1.le (w1.heap.size + 1) w11 (Below.refl w11.heap.size w11 |>.mono HM11.out.1.le) (Nat.le_refl _) ?_); (intro v12 w12 O12 B12 G12; have HM12 := Lib.hid (HM11.out.1.more O12 G12); clear O12 B12 G12)))
            go_roundw
            case rel =>
              have h := HM12.out
              rw [← HNX.out.1, ← HNX.out.2] at h
              exact ⟨j + 1, by omega, by go_num, _, h⟩
            case measure => simp [intOf]; omega
      · obtain rfl : j = len1 := by omega
        clear hvp hvr
        have hall : z1.take j = z1 := List.take_of_length_le (by have := HZ.out.1; omega)
        rw [hall] at HM
        have hX := nrs_len z1
        rw [← HZ.out.1] at hX
        have hPe := enc_nrs f z1 (by have := HZ.out.1; omega)
        have hPd := dec_nrs f hf16 z1 (by have := HZ.out.1; omega) HZ.out.2.2.1
        have hXf := nrs_fits HZ.out.2.2.1
        have hPl : (enc f (nrs z1)).length ≤ 20000 := by unfold enc; rw [seal_len]; have := encB_len f (nrs z1); omega
        have hll := flat_len (nrs z1)
        rw [hX] at hll
        have hQl : ([1] ++ coin f ++ (nrs z1).flatMap Pt.bytes).length ≤ 20000 := by have := HCL.out; simp only [List.length_append, List.length_cons, List.length_nil]; omega
        have hXg : ∀ k (hk : k < z1.length), (nrs z1)[k]? = some z1[k].near := fun k hk => by simp [nrs, hk]
        clear hll
        generalize hXX : nrs z1 = X at *
        generalize hQQ : [1] ++ coin f ++ X.flatMap Pt.bytes = Q at *
        have hps := HM.out.po.form
        obtain ⟨Ap, cp, hvp, hpsl⟩ := hps
        obtain ⟨Ar, cr, hvr, hRr, hcr, hnr⟩ := HM.out.ro.form
        obtain ⟨mr, hmr⟩ : ∃ mr, mr = Q.length := ⟨_, rfl⟩
        rw [← hmr] at hvr hcr
        rw [hX] at hvp
        subst hvp hvr
        have hen := enc_any wr f j cp Ap X (by omega) hX.symm (by omega) hpsl hXf
        have HPk : Hid (∀ W, Rd W W.heap.size Ar Q → Calls Try.prog 14 #[.slice Ar mr cr] W (CoinOwn W (enc f X))) := fun W h => by
          rw [hPe]
          exact packet_any W Ar mr cr W.heap.size Q hmr (by omega) h (Nat.le_refl _) hnr
        have HDc : Hid (∀ W A m cap, m = (enc f X).length → Rd W W.heap.size A (enc f X) → m ≤ cap → (A = none → cap = 0) → Calls Try.prog 16 #[.slice A m cap] W fun e w' => ∃ A' c', e = .returned (.tuple #[.agg #[.int .i64 (f : Int), .slice A' j c'], .int .i64 0, .int .i64 0]) ∧ PSl w' A' X ∧ Below W.heap.size W w') := fun W A m cap h1 h3 h4 h5 => by
          have h := dec_any A m cap (enc f X) W h1 (by omega) h3 h4 h5
          rw [hPd] at h
          rw [← hX]
          exact h
        obtain ⟨⟨q0, q1⟩, -, -⟩ := row2b HM.out.row
        have eb := HM.out.lt
        generalize enc f X = P at *
        have HN := Lib.hid (And.intro hen (And.intro hX hXg))
        clear hen hPe hPd hXf hPl hQl hX hXg hmr hcr hpsl hXX hQQ hall HCo HCL hRr hnr
        go_upto_region 12 with (first
          | (go_at_call 9; (with_reducible refine HN.out.1.mono ?_); (rintro e w6 ⟨v6, rfl, O6, B6⟩; obtain ⟨A6, c6, hv6, R6, hc6, hn6⟩ := O6.form; obtain ⟨m6, hm6⟩ : ∃ m, m = P.length := ⟨_, rfl⟩; rw [← hm6] at hv6 hc6; subst hv6; have HP6 := Lib.hid (And.intro R6 (And.intro hm6 (And.intro hc6 (And.intro hn6 (HM.out.step B6))))); clear O6 B6 R6 hm6 hc6 hn6 q0 q1 eb))
          | (go_at_call 16; (with_reducible refine (HDc.out _ A6 m6 c6 HP6.out.2.1 HP6.out.1 HP6.out.2.2.1 HP6.out.2.2.2.1).mono ?_); (rintro e w7 ⟨A9, c9, rfl, S7, B7⟩; have HM7 := Lib.hid (And.intro (HP6.out.2.2.2.2.step B7) (And.intro S7 ((HP6.out.1.below B7 (Nat.le_refl _)).more B7.size))); clear S7 B7)))
        have B8 := (Below.refl w7.heap.size w7).alloc (Nat.le_refl _) (.cells #[.int .i64 (f : Int), .slice A9 j c9] 34)
        have HT := Lib.hid (And.intro ((HM7.out.2.2.below B8 (Nat.le_refl _)).more B8.size) (And.intro HP6.out.2.1 (And.intro (HM7.out.1.step B8) (And.intro (HM7.out.2.1.below B8) (heap_alloc_new w7 (.cells #[.int .i64 (f : Int), .slice A9 j c9] 34))))))
        clear B8 HM7 HP6
        generalize w7.alloc _ = wz at *
        generalize w7.heap.size = g9 at *
        have HPk' : Hid (∀ W, Below wz.heap.size wz W → Calls Try.prog 14 #[.slice Ar mr cr] W (CoinOwn W P)) := fun W h => HPk.out W ((HT.out.2.2.1.ro.rd.below h (Nat.le_refl _)).more h.size)
        replace HPk := HPk'
        clear HPk'
        obtain ⟨SP, hSP⟩ : ∃ SP, Coin.str P = SP := ⟨_, rfl⟩
        have HSP := Lib.hid hSP
        have HR9 : Hid (∀ W, Below wz.heap.size wz W → W.heap[g9]? = some (.cells #[.int .i64 (f : Int), .slice A9 j c9] 34 (0, 0))) := fun W h => (h.block g9 (Array.getElem?_eq_some_iff.1 HT.out.2.2.2.2).1).trans HT.out.2.2.2.2
        have HR5 : Hid (∀ W, Below wz.heap.size wz W → W.heap[w1.heap.size]? = some (.cells #[.int .i64 (f : Int), .slice Ap j cp] 34 (0, 0))) := fun W h => (h.block w1.heap.size HT.out.2.2.1.lt).trans HT.out.2.2.1.row
        clear hSP
        refine wp_region_noPanic ?_
        refine wp_region_held_drew (S := fun W : World => Below wz.heap.size wz W) (by kernel_rfl) ((Below.refl _ _).drew) (fun hHeld => ?_)
        generalize wz.drew = wd at *
        refine wpAnyH_take (i := 0) (oi := { dst := some 63, op := Op.move (Operand.tmp 8), type := 30, pos := "law.go:94", after := #[], guard := none }) (v := .slice A6 m6 c6) rfl (by kernel_rfl) (by kernel_rfl) (by kernel_rfl) (fun _ _ _ h => h) (Or.inl ⟨by rfl, fun w hSw => by go_simp⟩) (by assumption) ?_
        try simp only [Act.put, List.setIfInBounds_toArray, List.set_cons_zero, List.set_cons_succ]
        refine wpAnyH_take (i := 1) (oi := { dst := some 64, op := Op.convert 30 9 (Operand.tmp 63), type := 9, pos := "law.go:94", after := #[{ on := 0, ground := Ground.data }], guard := none }) (v := .string SP) rfl (by kernel_rfl) (by kernel_rfl) (by kernel_rfl) (fun _ _ _ h => h) (Or.inl ⟨by rfl, fun w hSw => by have hc := Coin.conv_any (HT.out.1.below hSw (Nat.le_refl _)) m6 c6 HT.out.2.1; rw [HSP.out] at hc; go_simp⟩) (by assumption) ?_
        try simp only [Act.put, List.setIfInBounds_toArray, List.set_cons_zero, List.set_cons_succ]
        refine wpAnyH_take (i := 2) (oi := { dst := some 65, op := Op.move (Operand.tmp 6), type := 30, pos := "law.go:94", after := #[], guard := none }) (v := .slice Ar mr cr) rfl (by kernel_rfl) (by kernel_rfl) (by kernel_rfl) (fun _ _ _ h => h) (Or.inl ⟨by rfl, fun w hSw => by go_simp⟩) (by assumption) ?_
        try simp only [Act.put, List.setIfInBounds_toArray, List.set_cons_zero, List.set_cons_succ]
        refine wpAnyH_ready (rs := [3]) (by kernel_rfl) (by simp) ?_
        refine AllReadyH.cons (o := { dst := some 66, op := Op.call { callee := Callee.value (Operand.func 14), args := #[Operand.tmp 65], argTypes := #[30] }, type := 30, pos := "law.go:94", after := #[{ on := 2, ground := Ground.data }], guard := none }) rfl (fun K hK => ?_) AllReadyH.nil
        go_simp
        with_reducible refine (HPk.out _ hHeld).mono ?_
        rintro e w13 ⟨v13, rfl, O13, B13⟩
        have hb13 := hHeld.trans (B13.mono hHeld.size)
        obtain ⟨A13, c13, hv13, R13, -, -⟩ := O13.form
        obtain ⟨m13, hm13⟩ : ∃ m, m = P.length := ⟨_, rfl⟩
        rw [← hm13] at hv13
        subst hv13
        have HM13 := Lib.hid hm13
        clear hm13
        refine hK.out _ _ (hb13) (fun hHeld => ?_)
        clear hK K
        try simp only [Act.put, List.setIfInBounds_toArray, List.set_cons_zero, List.set_cons_succ]
        refine wpAnyH_ready (rs := [4]) (by kernel_rfl) (by simp) ?_
        refine AllReadyH.cons (o := { dst := some 67, op := Op.convert 30 9 (Operand.tmp 66), type := 9, pos := "law.go:94", after := #[{ on := 3, ground := Ground.data }], guard := none }) rfl (fun K hK => ?_) AllReadyH.nil
        have hc := Coin.conv_any R13 m13 c13 HM13.out
        rw [HSP.out] at hc
        go_simp
        refine hK.out _ _ (hHeld) (fun hHeld => ?_)
        clear hK K
        try simp only [Act.put, List.setIfInBounds_toArray, List.set_cons_zero, List.set_cons_succ]
        clear hc
        refine wpAnyH_take (i := 5) (oi := { dst := some 68, op := Op.binOp BinOp.neq 9 (Operand.tmp 64) (Operand.tmp 67) 9, type := 4, pos := "law.go:94", after := #[{ on := 1, ground := Ground.data }, { on := 4, ground := Ground.data }], guard := none }) (v := .bool false) rfl (by kernel_rfl) (by kernel_rfl) (by kernel_rfl) (fun _ _ _ h => h) (Or.inl ⟨by rfl, fun w hSw => by go_simp⟩) (by assumption) ?_
        try simp only [Act.put, List.setIfInBounds_toArray, List.set_cons_zero, List.set_cons_succ]
        refine wpAnyH_take (i := 6) (oi := { dst := some 69, op := Op.move (Operand.tmp 68), type := 4, pos := "law.go:94", after := #[{ on := 5, ground := Ground.data }, { on := 3, ground := Ground.chain }], guard := none }) (v := .bool false) rfl (by kernel_rfl) (by kernel_rfl) (by kernel_rfl) (fun _ _ _ h => h) (Or.inl ⟨by rfl, fun w hSw => by go_simp⟩) (by assumption) ?_
        try simp only [Act.put, List.setIfInBounds_toArray, List.set_cons_zero, List.set_cons_succ]
        refine wpAnyH_take (i := 7) (oi := { dst := some 70, op := Op.move (Operand.tmp 11), type := 41, pos := "law.go:94", after := #[{ on := 6, ground := Ground.guard }], guard := some (6, false) }) (v := .int .i64 0) rfl (by kernel_rfl) (by kernel_rfl) (by kernel_rfl) (fun _ _ _ h => h) (Or.inl ⟨by rfl, fun w hSw => by go_simp⟩) (by assumption) ?_
        try simp only [Act.put, List.setIfInBounds_toArray, List.set_cons_zero, List.set_cons_succ]
        refine wpAnyH_take (i := 8) (oi := { dst := some 71, op := Op.binOp BinOp.neq 41 (Operand.tmp 70) (Operand.const (Value.int IntKind.i64 0)) 41, type := 4, pos := "law.go:94", after := #[{ on := 7, ground := Ground.data }, { on := 6, ground := Ground.guard }], guard := some (6, false) }) (v := .bool false) rfl (by kernel_rfl) (by kernel_rfl) (by kernel_rfl) (fun _ _ _ h => h) (Or.inl ⟨by rfl, fun w hSw => by go_simp⟩) (by assumption) ?_
        try simp only [Act.put, List.setIfInBounds_toArray, List.set_cons_zero, List.set_cons_succ]
        refine wpAnyH_take (i := 9) (oi := { dst := some 72, op := Op.pick (Operand.tmp 69) (Operand.const (Value.bool true)) (Operand.tmp 71), type := 4, pos := "law.go:94", after := #[{ on := 6, ground := Ground.data }, { on := 8, ground := Ground.data }], guard := none }) (v := .bool false) rfl (by kernel_rfl) (by kernel_rfl) (by kernel_rfl) (fun _ _ _ h => h) (Or.inl ⟨by rfl, fun w hSw => by go_simp⟩) (by assumption) ?_
        try simp only [Act.put, List.setIfInBounds_toArray, List.set_cons_zero, List.set_cons_succ]
        refine wpAnyH_take (i := 10) (oi := { dst := some 73, op := Op.move (Operand.tmp 72), type := 4, pos := "law.go:94", after := #[{ on := 9, ground := Ground.data }, { on := 6, ground := Ground.chain }], guard := none }) (v := .bool false) rfl (by kernel_rfl) (by kernel_rfl) (by kernel_rfl) (fun _ _ _ h => h) (Or.inl ⟨by rfl, fun w hSw => by go_simp⟩) (by assumption) ?_
        try simp only [Act.put, List.setIfInBounds_toArray, List.set_cons_zero, List.set_cons_succ]
        refine wpAnyH_take (i := 11) (oi := { dst := some 74, op := Op.move (Operand.tmp 10), type := 3, pos := "law.go:94", after := #[{ on := 10, ground := Ground.guard }], guard := some (10, false) }) (v := .int .i64 0) rfl (by kernel_rfl) (by kernel_rfl) (by kernel_rfl) (fun _ _ _ h => h) (Or.inl ⟨by rfl, fun w hSw => by go_simp⟩) (by assumption) ?_
        try simp only [Act.put, List.setIfInBounds_toArray, List.set_cons_zero, List.set_cons_succ]
        refine wpAnyH_take (i := 12) (oi := { dst := some 75, op := Op.binOp BinOp.neq 3 (Operand.tmp 74) (Operand.const (Value.int IntKind.i64 0)) 3, type := 4, pos := "law.go:94", after := #[{ on := 11, ground := Ground.data }, { on := 10, ground := Ground.guard }], guard := some (10, false) }) (v := .bool false) rfl (by kernel_rfl) (by kernel_rfl) (by kernel_rfl) (fun _ _ _ h => h) (Or.inl ⟨by rfl, fun w hSw => by go_simp⟩) (by assumption) ?_
        try simp only [Act.put, List.setIfInBounds_toArray, List.set_cons_zero, List.set_cons_succ]
        refine wpAnyH_take (i := 13) (oi := { dst := some 76, op := Op.pick (Operand.tmp 73) (Operand.const (Value.bool true)) (Operand.tmp 75), type := 4, pos := "law.go:94", after := #[{ on := 10, ground := Ground.data }, { on := 12, ground := Ground.data }], guard := none }) (v := .bool false) rfl (by kernel_rfl) (by kernel_rfl) (by kernel_rfl) (fun _ _ _ h => h) (Or.inl ⟨by rfl, fun w hSw => by go_simp⟩) (by assumption) ?_
        try simp only [Act.put, List.setIfInBounds_toArray, List.set_cons_zero, List.set_cons_succ]
        refine wpAnyH_take (i := 14) (oi := { dst := some 77, op := Op.move (Operand.tmp 76), type := 4, pos := "law.go:94", after := #[{ on := 13, ground := Ground.data }, { on := 10, ground := Ground.chain }], guard := none }) (v := .bool false) rfl (by kernel_rfl) (by kernel_rfl) (by kernel_rfl) (fun _ _ _ h => h) (Or.inl ⟨by rfl, fun w hSw => by go_simp⟩) (by assumption) ?_
        try simp only [Act.put, List.setIfInBounds_toArray, List.set_cons_zero, List.set_cons_succ]
        refine wpAnyH_take (i := 15) (oi := { dst := some 78, op := Op.fieldAddr 34 (Operand.tmp 9) 0, type := 0, pos := "law.go:94", after := #[{ on := 14, ground := Ground.guard }], guard := some (14, false) }) (v := .pointer (some ⟨g9, 0, none⟩)) rfl (by kernel_rfl) (by kernel_rfl) (by kernel_rfl) (fun _ _ _ h => h) (Or.inl ⟨by rfl, fun w hSw => by go_simp⟩) (by assumption) ?_
        try simp only [Act.put, List.setIfInBounds_toArray, List.set_cons_zero, List.set_cons_succ]
        refine wpAnyH_take (i := 16) (oi := { dst := some 79, op := Op.load 3 (Operand.tmp 78), type := 3, pos := "law.go:94", after := #[{ on := 15, ground := Ground.data }, { on := 14, ground := Ground.guard }], guard := some (14, false) }) (v := .int .i64 (f : Int)) rfl (by kernel_rfl) (by kernel_rfl) (by kernel_rfl) (fun _ _ _ h => h) (Or.inl ⟨by rfl, fun w hSw => by obtain ⟨⟨q0, q1⟩, -, -⟩ := row2b (HR9.out _ hSw); go_simp⟩) (by assumption) ?_
        try simp only [Act.put, List.setIfInBounds_toArray, List.set_cons_zero, List.set_cons_succ]
        refine wpAnyH_take (i := 17) (oi := { dst := some 80, op := Op.fieldAddr 34 (Operand.tmp 5) 0, type := 0, pos := "law.go:94", after := #[{ on := 14, ground := Ground.guard }], guard := some (14, false) }) (v := .pointer (some ⟨w1.heap.size, 0, none⟩)) rfl (by kernel_rfl) (by kernel_rfl) (by kernel_rfl) (fun _ _ _ h => h) (Or.inl ⟨by rfl, fun w hSw => by go_simp⟩) (by assumption) ?_
        try simp only [Act.put, List.setIfInBounds_toArray, List.set_cons_zero, List.set_cons_succ]
        refine wpAnyH_take (i := 18) (oi := { dst := some 81, op := Op.load 3 (Operand.tmp 80), type := 3, pos := "law.go:94", after := #[{ on := 17, ground := Ground.data }, { on := 14, ground := Ground.guard }], guard := some (14, false) }) (v := .int .i64 (f : Int)) rfl (by kernel_rfl) (by kernel_rfl) (by kernel_rfl) (fun _ _ _ h => h) (Or.inl ⟨by rfl, fun w hSw => by obtain ⟨⟨q0, q1⟩, -, -⟩ := row2b (HR5.out _ hSw); go_simp⟩) (by assumption) ?_
        try simp only [Act.put, List.setIfInBounds_toArray, List.set_cons_zero, List.set_cons_succ]
        refine wpAnyH_take (i := 19) (oi := { dst := some 82, op := Op.binOp BinOp.neq 3 (Operand.tmp 79) (Operand.tmp 81) 3, type := 4, pos := "law.go:94", after := #[{ on := 16, ground := Ground.data }, { on := 18, ground := Ground.data }, { on := 14, ground := Ground.guard }], guard := some (14, false) }) (v := .bool false) rfl (by kernel_rfl) (by kernel_rfl) (by kernel_rfl) (fun _ _ _ h => h) (Or.inl ⟨by rfl, fun w hSw => by go_simp⟩) (by assumption) ?_
        try simp only [Act.put, List.setIfInBounds_toArray, List.set_cons_zero, List.set_cons_succ]
        refine wpAnyH_take (i := 20) (oi := { dst := some 83, op := Op.pick (Operand.tmp 77) (Operand.const (Value.bool true)) (Operand.tmp 82), type := 4, pos := "law.go:94", after := #[{ on := 14, ground := Ground.data }, { on := 19, ground := Ground.data }], guard := none }) (v := .bool false) rfl (by kernel_rfl) (by kernel_rfl) (by kernel_rfl) (fun _ _ _ h => h) (Or.inl ⟨by rfl, fun w hSw => by go_simp⟩) (by assumption) ?_
        try simp only [Act.put, List.setIfInBounds_toArray, List.set_cons_zero, List.set_cons_succ]
        refine wpAnyH_take (i := 21) (oi := { dst := some 84, op := Op.move (Operand.tmp 83), type := 4, pos := "law.go:94", after := #[{ on := 20, ground := Ground.data }, { on := 14, ground := Ground.chain }], guard := none }) (v := .bool false) rfl (by kernel_rfl) (by kernel_rfl) (by kernel_rfl) (fun _ _ _ h => h) (Or.inl ⟨by rfl, fun w hSw => by go_simp⟩) (by assumption) ?_
        try simp only [Act.put, List.setIfInBounds_toArray, List.set_cons_zero, List.set_cons_succ]
        refine wpAnyH_take (i := 22) (oi := { dst := some 85, op := Op.fieldAddr 34 (Operand.tmp 9) 1, type := 0, pos := "law.go:94", after := #[{ on := 21, ground := Ground.guard }], guard := some (21, false) }) (v := .pointer (some ⟨g9, 1, none⟩)) rfl (by kernel_rfl) (by kernel_rfl) (by kernel_rfl) (fun _ _ _ h => h) (Or.inl ⟨by rfl, fun w hSw => by go_simp⟩) (by assumption) ?_
        try simp only [Act.put, List.setIfInBounds_toArray, List.set_cons_zero, List.set_cons_succ]
        refine wpAnyH_take (i := 23) (oi := { dst := some 86, op := Op.load 32 (Operand.tmp 85), type := 32, pos := "law.go:94", after := #[{ on := 22, ground := Ground.data }, { on := 21, ground := Ground.guard }], guard := some (21, false) }) (v := .slice A9 j c9) rfl (by kernel_rfl) (by kernel_rfl) (by kernel_rfl) (fun _ _ _ h => h) (Or.inl ⟨by rfl, fun w hSw => by obtain ⟨⟨q0, q1⟩, -, -⟩ := row2b (HR9.out _ hSw); go_simp⟩) (by assumption) ?_
        try simp only [Act.put, List.setIfInBounds_toArray, List.set_cons_zero, List.set_cons_succ]
        refine wpAnyH_take (i := 24) (oi := { dst := some 87, op := Op.call { callee := Callee.builtin Builtin.len, args := #[Operand.tmp 86], argTypes := #[32] }, type := 3, pos := "law.go:94", after := #[{ on := 23, ground := Ground.data }, { on := 21, ground := Ground.guard }], guard := some (21, false) }) (v := .int .i64 (j : Int)) rfl (by kernel_rfl) (by kernel_rfl) (by kernel_rfl) (fun _ _ _ h => h) (Or.inl ⟨by rfl, fun w hSw => by go_simp⟩) (by assumption) ?_
        try simp only [Act.put, List.setIfInBounds_toArray, List.set_cons_zero, List.set_cons_succ]
        refine wpAnyH_take (i := 25) (oi := { dst := some 88, op := Op.move (Operand.tmp 1), type := 32, pos := "law.go:94", after := #[{ on := 21, ground := Ground.guard }], guard := some (21, false) }) (v := .slice a1 j cap1) rfl (by kernel_rfl) (by kernel_rfl) (by kernel_rfl) (fun _ _ _ h => h) (Or.inl ⟨by rfl, fun w hSw => by go_simp⟩) (by assumption) ?_
        try simp only [Act.put, List.setIfInBounds_toArray, List.set_cons_zero, List.set_cons_succ]
        refine wpAnyH_take (i := 26) (oi := { dst := some 89, op := Op.call { callee := Callee.builtin Builtin.len, args := #[Operand.tmp 88], argTypes := #[32] }, type := 3, pos := "law.go:94", after := #[{ on := 25, ground := Ground.data }, { on := 21, ground := Ground.guard }], guard := some (21, false) }) (v := .int .i64 (j : Int)) rfl (by kernel_rfl) (by kernel_rfl) (by kernel_rfl) (fun _ _ _ h => h) (Or.inl ⟨by rfl, fun w hSw => by go_simp⟩) (by assumption) ?_
        try simp only [Act.put, List.setIfInBounds_toArray, List.set_cons_zero, List.set_cons_succ]
        refine wpAnyH_take (i := 27) (oi := { dst := some 90, op := Op.binOp BinOp.neq 3 (Operand.tmp 87) (Operand.tmp 89) 3, type := 4, pos := "law.go:94", after := #[{ on := 24, ground := Ground.data }, { on := 26, ground := Ground.data }, { on := 21, ground := Ground.guard }], guard := some (21, false) }) (v := .bool false) rfl (by kernel_rfl) (by kernel_rfl) (by kernel_rfl) (fun _ _ _ h => h) (Or.inl ⟨by rfl, fun w hSw => by go_simp⟩) (by assumption) ?_
        try simp only [Act.put, List.setIfInBounds_toArray, List.set_cons_zero, List.set_cons_succ]
        refine wpAnyH_take (i := 28) (oi := { dst := some 91, op := Op.pick (Operand.tmp 84) (Operand.const (Value.bool true)) (Operand.tmp 90), type := 4, pos := "law.go:94", after := #[{ on := 21, ground := Ground.data }, { on := 27, ground := Ground.data }], guard := none }) (v := .bool false) rfl (by kernel_rfl) (by kernel_rfl) (by kernel_rfl) (fun _ _ _ h => h) (Or.inl ⟨by rfl, fun w hSw => by go_simp⟩) (by assumption) ?_
        try simp only [Act.put, List.setIfInBounds_toArray, List.set_cons_zero, List.set_cons_succ]
        have HE := Lib.hid hHeld
        clear hHeld
        refine wpAnyH_done (by kernel_rfl) ?_ _
        try unfold NoPanic
        go_wp2
        go_loopw [12] (fun i wr => ∃ t : Nat, t ≤ j ∧ i = .int .i64 t ∧ Hid (Below wz.heap.size wz wr)) (fun i _ => j - (intOf i).toNat)
        case atStart => exact ⟨0, by omega, rfl, HE⟩
        case round =>
          obtain ⟨t, ht, rfl, HE⟩ := hrel
          by_cases hlt : t < j
          · have htl : t < z1.length := by rw [← HZ.out.1]; exact hlt
            have htx : t < X.length := by rw [HN.out.2.1]; exact hlt
            obtain ⟨bb, oo, ea, hbb, hc0⟩ := HZ.out.2.1 t htl
            subst ea
            obtain ⟨bb9, oo9, ea9, hbb9, hc9⟩ := HT.out.2.2.2.1 t htx
            subst ea9
            have hg : X[t] = z1[t].near := by have h := HN.out.2.2 t htl; rw [List.getElem?_eq_getElem htx] at h; injection h
            have hxf := HZ.out.2.2.1 _ (List.getElem_mem htl)
            have hne := fun W => near_any z1[t] hxf W
            rw [hg] at hc9
            generalize z1[t].near = y at *
            generalize z1[t] = x at *
            have HNe : Hid (∀ W, Calls Try.prog 8 #[.agg #[.int .u8 (x.K : Int), .int .u64 (x.N : Int), .int .i64 x.Nd, .int .u32 (x.A : Int), .int .u8 (x.L : Int), .int .u16 (x.Sq : Int), .int .u16 (x.M : Int)]] W fun e w' => e = .returned (.agg #[.int .u8 (y.K : Int), .int .u64 (y.N : Int), .int .i64 y.Nd, .int .u32 (y.A : Int), .int .u8 (y.L : Int), .int .u16 (y.Sq : Int), .int .u16 (y.M : Int)]) ∧ Below W.heap.size W w') := hne
            have HPA : Hid (∀ W, Below wz.heap.size wz W → PAt W bb (oo + t * 7) x) := fun W h => hc0.keep (((HB1.out.trans (HT.out.2.2.1.bl.mono HB1.out.size)).trans (h.mono (HB1.out.trans (HT.out.2.2.1.bl.mono HB1.out.size)).size)).block bb hbb)
            have HPY : Hid (∀ W, Below wz.heap.size wz W → PAt W bb9 (oo9 + t * 7) y) := fun W h => hc9.keep (h.block bb9 hbb9)
            clear hne hg hxf hc0 hc9 hbb hbb9 htl htx
            go_upto_region 17 with (fail)
            refine wp_region_noPanic ?_
            refine wp_region_held_drew (S := fun W : World => Below wz.heap.size wz W) (by kernel_rfl) (HE.out.drew) (fun hHeld => ?_)
            generalize wr.drew = wd at *
            refine wpAnyH_take (i := 0) (oi := { dst := some 98, op := Op.fieldAddr 34 (Operand.tmp 9) 1, type := 0, pos := "law.go:98", after := #[], guard := none }) (v := .pointer (some ⟨g9, 1, none⟩)) rfl (by kernel_rfl) (by kernel_rfl) (by kernel_rfl) (fun _ _ _ h => h) (Or.inl ⟨by rfl, fun w hSw => by go_simp⟩) (by assumption) ?_
            try simp only [Act.put, List.setIfInBounds_toArray, List.set_cons_zero, List.set_cons_succ]
            refine wpAnyH_take (i := 1) (oi := { dst := some 99, op := Op.load 32 (Operand.tmp 98), type := 32, pos := "law.go:98", after := #[{ on := 0, ground := Ground.data }], guard := none }) (v := .slice (some ⟨bb9, oo9, none⟩) j c9) rfl (by kernel_rfl) (by kernel_rfl) (by kernel_rfl) (fun _ _ _ h => h) (Or.inl ⟨by rfl, fun w hSw => by obtain ⟨⟨q0, q1⟩, -, -⟩ := row2b (HR9.out _ hSw); go_simp⟩) (by assumption) ?_
            try simp only [Act.put, List.setIfInBounds_toArray, List.set_cons_zero, List.set_cons_succ]
            refine wpAnyH_take (i := 2) (oi := { dst := some 100, op := Op.move (Operand.tmp 12), type := 3, pos := "law.go:98", after := #[], guard := none }) (v := .int .i64 (t : Int)) rfl (by kernel_rfl) (by kernel_rfl) (by kernel_rfl) (fun _ _ _ h => h) (Or.inl ⟨by rfl, fun w hSw => by go_simp⟩) (by assumption) ?_
            try simp only [Act.put, List.setIfInBounds_toArray, List.set_cons_zero, List.set_cons_succ]
            refine wpAnyH_take (i := 3) (oi := { dst := some 101, op := Op.indexAddr 32 (Operand.tmp 99) (Operand.tmp 100), type := 0, pos := "law.go:98", after := #[{ on := 1, ground := Ground.data }, { on := 2, ground := Ground.data }], guard := none }) (v := .pointer (some ⟨bb9, oo9 + t * 7, none⟩)) rfl (by kernel_rfl) (by kernel_rfl) (by kernel_rfl) (fun _ _ _ h => h) (Or.inl ⟨by rfl, fun w hSw => by go_simp⟩) (by assumption) ?_
            try simp only [Act.put, List.setIfInBounds_toArray, List.set_cons_zero, List.set_cons_succ]
            refine wpAnyH_take (i := 4) (oi := { dst := some 102, op := Op.load 28 (Operand.tmp 101), type := 28, pos := "law.go:98", after := #[{ on := 3, ground := Ground.data }], guard := none }) (v := .agg #[.int .u8 (y.K : Int), .int .u64 (y.N : Int), .int .i64 y.Nd, .int .u32 (y.A : Int), .int .u8 (y.L : Int), .int .u16 (y.Sq : Int), .int .u16 (y.M : Int)]) rfl (by kernel_rfl) (by kernel_rfl) (by kernel_rfl) (fun _ _ _ h => h) (Or.inl ⟨by rfl, fun w hSw => by obtain ⟨k0, k1, k2, k3, k4, k5, k6⟩ := HPY.out _ hSw; go_simp⟩) (by assumption) ?_
            try simp only [Act.put, List.setIfInBounds_toArray, List.set_cons_zero, List.set_cons_succ]
            refine wpAnyH_take (i := 5) (oi := { dst := some 103, op := Op.move (Operand.tmp 1), type := 32, pos := "law.go:98", after := #[], guard := none }) (v := .slice (some ⟨bb, oo, none⟩) j cap1) rfl (by kernel_rfl) (by kernel_rfl) (by kernel_rfl) (fun _ _ _ h => h) (Or.inl ⟨by rfl, fun w hSw => by go_simp⟩) (by assumption) ?_
            try simp only [Act.put, List.setIfInBounds_toArray, List.set_cons_zero, List.set_cons_succ]
            refine wpAnyH_take (i := 6) (oi := { dst := some 104, op := Op.move (Operand.tmp 12), type := 3, pos := "law.go:98", after := #[], guard := none }) (v := .int .i64 (t : Int)) rfl (by kernel_rfl) (by kernel_rfl) (by kernel_rfl) (fun _ _ _ h => h) (Or.inl ⟨by rfl, fun w hSw => by go_simp⟩) (by assumption) ?_
            try simp only [Act.put, List.setIfInBounds_toArray, List.set_cons_zero, List.set_cons_succ]
            refine wpAnyH_take (i := 7) (oi := { dst := some 105, op := Op.indexAddr 32 (Operand.tmp 103) (Operand.tmp 104), type := 0, pos := "law.go:98", after := #[{ on := 5, ground := Ground.data }, { on := 6, ground := Ground.data }], guard := none }) (v := .pointer (some ⟨bb, oo + t * 7, none⟩)) rfl (by kernel_rfl) (by kernel_rfl) (by kernel_rfl) (fun _ _ _ h => h) (Or.inl ⟨by rfl, fun w hSw => by go_simp⟩) (by assumption) ?_
            try simp only [Act.put, List.setIfInBounds_toArray, List.set_cons_zero, List.set_cons_succ]
            refine wpAnyH_take (i := 8) (oi := { dst := some 106, op := Op.load 28 (Operand.tmp 105), type := 28, pos := "law.go:98", after := #[{ on := 7, ground := Ground.data }], guard := none }) (v := .agg #[.int .u8 (x.K : Int), .int .u64 (x.N : Int), .int .i64 x.Nd, .int .u32 (x.A : Int), .int .u8 (x.L : Int), .int .u16 (x.Sq : Int), .int .u16 (x.M : Int)]) rfl (by kernel_rfl) (by kernel_rfl) (by kernel_rfl) (fun _ _ _ h => h) (Or.inl ⟨by rfl, fun w hSw => by obtain ⟨k0, k1, k2, k3, k4, k5, k6⟩ := HPA.out _ hSw; go_simp⟩) (by assumption) ?_
            try simp only [Act.put, List.setIfInBounds_toArray, List.set_cons_zero, List.set_cons_succ]
            refine wpAnyH_ready (rs := [9]) (by kernel_rfl) (by simp) ?_
            refine AllReadyH.cons (o := { dst := some 107, op := Op.call { callee := Callee.value (Operand.func 8), args := #[Operand.tmp 106], argTypes := #[28] }, type := 28, pos := "law.go:98", after := #[{ on := 8, ground := Ground.data }], guard := none }) rfl (fun K hK => ?_) AllReadyH.nil
            go_simp
            with_reducible refine (HNe.out _).mono ?_
            rintro e wd ⟨rfl, B6⟩
            have hb := hHeld.trans (B6.mono hHeld.size)
            refine hK.out _ _ (hb) (fun hHeld => ?_)
            clear hK K
            try simp only [Act.put, List.setIfInBounds_toArray, List.set_cons_zero, List.set_cons_succ]
            refine wpAnyH_take (i := 10) (oi := { dst := some 108, op := Op.binOp BinOp.neq 28 (Operand.tmp 102) (Operand.tmp 107) 28, type := 4, pos := "law.go:98", after := #[{ on := 4, ground := Ground.data }, { on := 9, ground := Ground.data }], guard := none }) (v := .bool false) rfl (by kernel_rfl) (by kernel_rfl) (by kernel_rfl) (fun _ _ _ h => h) (Or.inl ⟨by rfl, fun w hSw => by go_simp⟩) (by assumption) ?_
            try simp only [Act.put, List.setIfInBounds_toArray, List.set_cons_zero, List.set_cons_succ]
            have HE2 := Lib.hid hHeld
            clear hHeld
            refine wpAnyH_done (by kernel_rfl) ?_ _
            try unfold NoPanic
            go_wp2
            go_roundw
            case rel => exact ⟨t + 1, by omega, by go_num, HE2⟩
            case measure => simp [intOf]; omega
          · go_wp2
            go_ret
            have hb := HB1.out.trans (HT.out.2.2.1.bl.mono HB1.out.size)
            exact ⟨rfl, hb.trans (HE.out.mono hb.size)⟩

set_option maxRecDepth 100000 in
theorem lifted (os : Os) (started : os.Started) (H : Type) (enc : TypeId × Value → H) :
    ReturnsInHanded {} Try.checked os 4 .any (Rows.messageBytesSpec.pre6 enc Try.prog Try.f4 Rows.messageBytesRow.domain false) (Rows.messageBytesSpec.post enc Try.prog Try.f4 false true false false) := by
  refine returnsInHanded_of_change (C := Try.checked) own started (by kernel_rfl) Try.func4
    (ChangeSpec.witness6 (enc := enc) (C := Try.checked) false ⟨#[], #[.int .u8 0, .slice none 0 0], []⟩ 8 (by kernel_rfl) (by kernel_rfl) (by kernel_rfl) (by kernel_rfl)) ?_
  intro W base args ds gs before hval0 hW hcnd _
  have hval : ∀ (j : Nat) t v, Try.f4.params[j]? = some t → args[j]? = some v → Value.okWide Try.prog W .any base t v := hval0
  have hW' := hW
  obtain ⟨p, q, hA0, hV, rfl, hfz, hnd⟩ := hW
  have hA : DataW.TrodAll enc Try.prog W 0 (fun _ => true) true Try.f4.params.toList args.toList ds p := hA0
  rw [Try.params4] at hA hval
  obtain ⟨v0, vs0, d0, ds0, p0, q0, hargs, rfl, rfl, h0, r0⟩ := trodAll_cons hA
  obtain ⟨v1, vs1, d1, ds1, p1, q1, rfl, rfl, rfl, h1, r1⟩ := trodAll_cons r0
  obtain ⟨rfl, rfl, rfl⟩ := trodAll_nil r1
  obtain rfl : args = #[v0, v1] := by cases args; simp_all
  obtain ⟨rfl, rfl⟩ := trodVars_none hV
  obtain ⟨a0, rfl, rfl, rfl, w0⟩ := open_int Try.underlying5 (hval 0 5 v0 rfl rfl) h0
  obtain ⟨a1, len1, cap1, rfl⟩ := okWide_slice Try.underlying32 (hval 1 32 v1 rfl rfl)
  have k1 := h1
  have lt1 : ∀ x ∈ p1, x.block < W.heap.size := by obtain ⟨m, hm⟩ := k1; exact DataW.trod_lt m _ _ _ hm
  obtain ⟨z1, w1⟩ : ∃ zs, IsActs W a1 len1 cap1 zs := by
    obtain ⟨fuel, hf⟩ := h1
    obtain ⟨a, l, c, ds, hcs, hds⟩ := acts_of hf
    simp [Value.cells] at hcs
    obtain ⟨rfl, rfl, rfl⟩ := hcs
    exact ⟨ds, hds⟩
  clear hA0 hval0
  refine (walk a0 a1 len1 cap1 z1 W w0 w1).mono fun e W' ⟨he, bel⟩ => ?_
  subst he
  exact ⟨_, rfl, _, _, _, [], _, [], hW', trodAll_mk1 (shut_bool Try.underlying4 _), (trodAll_cons_mk (shut_int Try.underlying5 w0) (trodAll_cons_mk (Below.trod laidOut (by kernel_rfl) (of_decide_eq_true (by kernel_rfl)) k1 bel lt1) trodAll_mk0)), rfl, bel.frame _, fun h => by cases h⟩

theorem over : Rows.messageBytesRow.holds Try.pinned (OpenSpec.ofChange Rows.messageBytesSpec) :=
  OpenClaim.holds_of_wide 4 Try.f4 rfl rfl rfl rfl rfl rfl rfl ⟨rfl, rfl, rfl, rfl, rfl⟩ rfl rfl rfl rfl rfl (by kernel_rfl) Try.func4 (by kernel_rfl)
    (of_decide_eq_true (by kernel_rfl)) (by unfold Func.isWrapper; first | (rw [if_pos (by decide +kernel)]; kernel_rfl) | (rw [if_neg (by decide +kernel)]; exact ⟨rfl, rfl⟩))
    (fun os started H enc _ => lifted os started H enc)

theorem proved : Rows.MessageBytesSaid := over
#print axioms proved
end Go.Proofs.Ytecfblkagbdjlaa.messageBytes
