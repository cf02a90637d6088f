/-
  'For every input the Go function milestonelaw16.RoutesSelect returns true, and each argument reads behind the call as it read before.'
  Conditions: none but the row's own (linux/amd64, sizes of what is read within the address space).
-/
import Derived.Test.YtkbhmdoichiinaaRows
import Derived.WalkKit
import Derived.ProofKit
import Derived.OpenShut
import Derived.ShutString
import Derived.ChangeOld
import Derived.Below
import Derived.Lib.SmallJoins
import Derived.Lib.Hide
import Derived.Test.YtkbhmdoichiinaaSJ
namespace Go.Proofs.Ytkbhmdoichiinaa.routesSelect
open Pre
open Ser
open Rts
open Go.ChangeShapes Go.WideShapes Go.ChangeAt Go.RowKit
open Go.ChangeMaps (open_string shut_string)
set_option linter.unusedVariables false
set_option maxRecDepth 8000
open Go.Proofs.Ytkbhmdoichiinaa.Src (row1 row2 Mk SrcAt pA pN)

theorem own : ownKnob Try.prog.godebug = none := by kernel_rfl
theorem laidOut : laidOutB Try.prog = true := by kernel_rfl

set_option maxRecDepth 60000 in
set_option maxHeartbeats 16000000 in
theorem walk (a0 : Option Addr) (len0 cap0 : Nat) (z0 : List ActD) (a1 : Option Addr) (len1 cap1 : Nat) (z1 : List ActD) (w : World) (w0 : IsActs w a0 len0 cap0 z0) (w1 : IsActs w a1 len1 cap1 z1) :
    Calls Try.prog 4 #[.slice a0 len0 cap0, .slice a1 len1 cap1] w fun e w' => e = .returned (.bool true) ∧ Below w.heap.size w w' := by
  have HAW : Hid (∀ W, Calls Try.prog 8 #[] W fun e w' => e = .returned (.bool true) ∧ Below W.heap.size W w') := Lib.hid awake_any
  have HY := Lib.hid w0
  have HY1 := Lib.hid w1
  clear w0 w1
  by_cases h80 : len0 ≤ 80 ∧ len1 ≤ 30
  · obtain ⟨h80, h30⟩ := h80
    have hl80 : ¬ (80 : Int) < (len0 : Int) := by omega
    have hl30 : ¬ (30 : Int) < (len1 : Int) := by omega
    go_enter Try.func4, Try.ntmps4
    go_wp2_with (first
      | (go_at_call 8; (with_reducible refine (HAW.out _).mono ?_); rintro en w1 ⟨rfl, B1⟩; have H1 := Lib.hid B1; clear B1)
      | (go_at_call 9; (with_reducible refine (new_any _).mono ?_); rintro en w2 ⟨rfl, R2, B2⟩; have HQ0 := Lib.hid (And.intro (H1.out.trans (B2.mono H1.out.size)) (rts_low' R2 H1.out.size)); clear R2 B2))
    have HP0 : Hid (LW w (w2.alloc (.cells #[.slice none 0 0, .int .u64 0] 29)) w1.heap.size w2.heap.size [] (.slice none 0 0) (.slice none 0 0) [] 0) := Lib.hid (LW.mk (HQ0.out.1.alloc HQ0.out.1.size _) (PL.start (HQ0.out.2.kept ((Below.refl _ _).alloc (Nat.le_refl _) _))) (heap_alloc_new w2 _) HQ0.out.1.size)
    clear HQ0 H1
    generalize w2.alloc _ = w3 at *
    generalize w1.heap.size = q at *
    generalize w2.heap.size = g at *
    go_loopw [7] (fun iv wr => ∃ k : Nat, k ≤ len0 ∧ iv = .int .i64 k ∧ ∃ (L l : List E) (v : Value) (A : Option Addr) (c now : Nat), Hid (LW w wr q g L v (.slice A l.length c) l now) ∧ Hid (Inv L l now ∧ l.length ≤ k ∧ now ≤ 40 * k)) (fun iv _ => len0 - (intOf iv).toNat)
    case atStart => exact ⟨0, Nat.zero_le _, rfl, [], [], _, none, 0, 0, HP0.out, Inv.nil 0, Nat.le_refl _, Nat.le_refl _⟩
    case round =>
      obtain ⟨k, hk, rfl, L, l, v, A, c, now, HP, HI⟩ := hrel
      clear HP0
      by_cases hlt : k < len0
      · have hkz : k < z0.length := by rw [← HY.out.1]; exact hlt
        obtain ⟨b0, o0, rfl, hb0, hA0⟩ := HY.out.at' (Below.refl _ _) k hkz
        have HDO := Lib.hid hA0.ok
        have HAC : Hid (∀ W, Below w.heap.size w W → AAt W b0 (o0 + k * 5) z0[k]) := Lib.hid fun W hW => by
          obtain ⟨b1, o1, e1, -, h1⟩ := HY.out.at' hW k hkz
          injection e1 with e1; injection e1 with e1 e2 _
          subst e1 e2
          exact h1
        generalize z0[k] = d at *
        clear hA0
        go_upto_region 8 with (fail)
        have HPd := Lib.hid (HP.out.step ((Below.refl wr.heap.size wr).drew))
        refine wp_region_noPanic ?_
        refine wp_region_held_drew (S := fun y : World => Below w.heap.size w y) (by kernel_rfl) HPd.out.b (fun hHeld => ?_)
        generalize wr.drew = wd at *
        refine wpAnyH_take (i := 0) (oi := { dst := some 43, op := Op.move (Operand.tmp 5), type := 24, pos := "law.go:154", after := #[], guard := none }) (v := .pointer (some ⟨q, 0, none⟩)) rfl (by kernel_rfl) (by kernel_rfl) (by kernel_rfl) (fun _ _ _ h => h) (Or.inl ⟨by rfl, fun w hSw => by go_simp⟩) (by assumption) ?_
        try simp only [Act.put, List.setIfInBounds_toArray, List.set_cons_zero, List.set_cons_succ]
        refine wpAnyH_take (i := 2) (oi := { dst := some 45, op := Op.move (Operand.tmp 0), type := 22, pos := "law.go:154", after := #[], guard := none }) (v := .slice (some ⟨b0, o0, none⟩) len0 cap0) rfl (by kernel_rfl) (by kernel_rfl) (by kernel_rfl) (fun _ _ _ h => h) (Or.inl ⟨by rfl, fun w hSw => by go_simp⟩) (by assumption) ?_
        try simp only [Act.put, List.setIfInBounds_toArray, List.set_cons_zero, List.set_cons_succ]
        refine wpAnyH_take (i := 3) (oi := { dst := some 46, op := Op.move (Operand.tmp 7), type := 3, pos := "law.go:154", after := #[], guard := none }) (v := .int .i64 (k : Int)) rfl (by kernel_rfl) (by kernel_rfl) (by kernel_rfl) (fun _ _ _ h => h) (Or.inl ⟨by rfl, fun w hSw => by go_simp⟩) (by assumption) ?_
        try simp only [Act.put, List.setIfInBounds_toArray, List.set_cons_zero, List.set_cons_succ]
        refine wpAnyH_take (i := 4) (oi := { dst := some 47, op := Op.indexAddr 22 (Operand.tmp 45) (Operand.tmp 46), type := 0, pos := "law.go:154", after := #[{ on := 2, ground := Ground.data }, { on := 3, ground := Ground.data }], guard := none }) (v := .pointer (some ⟨b0, o0 + k * 5, none⟩)) rfl (by kernel_rfl) (by kernel_rfl) (by kernel_rfl) (fun _ _ _ h => h) (Or.inl ⟨by rfl, fun w hSw => by go_simp⟩) (by assumption) ?_
        try simp only [Act.put, List.setIfInBounds_toArray, List.set_cons_zero, List.set_cons_succ]
        refine wpAnyH_take (i := 5) (oi := { dst := some 48, op := Op.load 34 (Operand.tmp 47), type := 34, pos := "law.go:154", after := #[{ on := 4, ground := Ground.data }], guard := none }) (v := .agg #[.int .u8 (d.K : Int), .int .u8 (d.B : Int), .int .u8 (d.P : Int), .int .u8 (d.Q : Int), .int .u16 (d.M : Int)]) rfl (by kernel_rfl) (by kernel_rfl) (by kernel_rfl) (fun _ _ _ h => h) (Or.inl ⟨by rfl, fun w hSw => by obtain ⟨k0, k1, k2, k3, k4, -⟩ := HAC.out _ hSw; go_simp⟩) (by assumption) ?_
        try simp only [Act.put, List.setIfInBounds_toArray, List.set_cons_zero, List.set_cons_succ]
        refine wpAnyH_ready (rs := [1]) (by kernel_rfl) (by simp) ?_
        refine (AllReadyH.cons (o := { dst := some 44, op := Op.load 29 (Operand.tmp 6), type := 29, pos := "law.go:154", after := #[], guard := none }) rfl (fun K hK => ?_) AllReadyH.nil)
        obtain ⟨t0, t1, -⟩ := row2 HPd.out.t
        go_simp
        have hS2 := hHeld
        refine hK.out _ _ hS2 (fun hHeld2 => ?_)
        clear hK K hHeld hS2
        have hHeld := hHeld2
        clear hHeld2
        try simp only [Act.put, List.setIfInBounds_toArray, List.set_cons_zero, List.set_cons_succ]
        clear t0 t1
        refine wpAnyH_ready (rs := [6]) (by kernel_rfl) (by simp) ?_
        refine (AllReadyH.cons (o := { dst := some 49, op := Op.call { callee := Callee.value (Operand.func 10), args := #[Operand.tmp 43, Operand.tmp 44, Operand.tmp 48], argTypes := #[24, 29, 34] }, type := 30, pos := "law.go:154", after := #[{ on := 0, ground := Ground.data }, { on := 1, ground := Ground.data }, { on := 5, ground := Ground.data }], guard := none }) rfl (fun K hK => ?_) AllReadyH.nil)
        go_simp
        with_reducible refine (do_any wd w.heap.size q v L l A c l.length now d rfl HPd.out.p HI.out.1 (by have := HI.out.2.1; omega) HDO.out (by have := HI.out.2.2; omega)).mono ?_
        rintro en wn ⟨v5, A5, c5, rfl, P5, F5, -⟩
        have HF := Lib.hid (HPd.out.fr (w' := wn) P5 F5)
        have HD := Lib.hid (HPd.out.done (now' := d.time now) P5 F5)
        have hS2 := HF.out.1
        clear P5 F5
        refine hK.out _ _ hS2 (fun hHeld2 => ?_)
        clear hK K hHeld hS2
        have hHeld := hHeld2
        clear hHeld2
        try simp only [Act.put, List.setIfInBounds_toArray, List.set_cons_zero, List.set_cons_succ]
        refine wpAnyH_take (i := 7) (oi := { dst := some 42, op := Op.move (Operand.tmp 49), type := 30, pos := "law.go:154", after := #[{ on := 6, ground := Ground.data }], guard := none }) (v := .tuple #[.agg #[.slice A5 (d.lst now l).length c5, .int .u64 (d.time now : Int)], .bool true]) rfl (by kernel_rfl) (by kernel_rfl) (by kernel_rfl) (fun _ _ _ h => h) (Or.inl ⟨by rfl, fun w hSw => by go_simp⟩) (by assumption) ?_
        try simp only [Act.put, List.setIfInBounds_toArray, List.set_cons_zero, List.set_cons_succ]
        refine wpAnyH_take (i := 8) (oi := { dst := some 50, op := Op.extract (Operand.tmp 42) 0, type := 29, pos := "law.go:154", after := #[{ on := 7, ground := Ground.data }], guard := none }) (v := .agg #[.slice A5 (d.lst now l).length c5, .int .u64 (d.time now : Int)]) rfl (by kernel_rfl) (by kernel_rfl) (by kernel_rfl) (fun _ _ _ h => h) (Or.inl ⟨by rfl, fun w hSw => by go_simp⟩) (by assumption) ?_
        try simp only [Act.put, List.setIfInBounds_toArray, List.set_cons_zero, List.set_cons_succ]
        refine wpAnyH_take (i := 9) (oi := { dst := some 51, op := Op.extract (Operand.tmp 42) 1, type := 4, pos := "law.go:154", after := #[{ on := 7, ground := Ground.data }, { on := 10, ground := Ground.gcOnly Departure.lateStores }], guard := none }) (v := .bool true) rfl (by kernel_rfl) (by kernel_rfl) (by kernel_rfl) (fun _ _ _ h => h) (Or.inl ⟨by rfl, fun w hSw => by go_simp⟩) (by assumption) ?_
        try simp only [Act.put, List.setIfInBounds_toArray, List.set_cons_zero, List.set_cons_succ]
        refine wpAnyH_ready (rs := [10]) (by kernel_rfl) (by simp) ?_
        refine (AllReadyH.cons (o := { dst := none, op := Op.store 29 (Operand.tmp 6) (Operand.tmp 50), type := 0, pos := "law.go:154", after := #[{ on := 8, ground := Ground.data }, { on := 6, ground := Ground.chain }, { on := 0, ground := Ground.phase }, { on := 1, ground := Ground.phase }, { on := 2, ground := Ground.phase }, { on := 3, ground := Ground.phase }, { on := 4, ground := Ground.phase }, { on := 5, ground := Ground.phase }, { on := 6, ground := Ground.phase }, { on := 7, ground := Ground.phase }, { on := 8, ground := Ground.phase }, { on := 9, ground := Ground.textOnly Departure.lateStores }], guard := none }) rfl (fun K hK => ?_) AllReadyH.nil)
        obtain ⟨t0, t1, tf⟩ := row2 HF.out.2
        have hgl : g < wn.heap.size := (Array.getElem?_eq_some_iff.1 HF.out.2).1
        go_simp
        have hS2 := HD.out.b
        clear t0 t1 tf hgl
        generalize (wn.setCell _ _).setCell _ _ = wk at *
        refine hK.out _ _ hS2 (fun hHeld2 => ?_)
        clear hK K hHeld hS2
        have hHeld := hHeld2
        clear hHeld2
        try simp only [Act.put, List.setIfInBounds_toArray, List.set_cons_zero, List.set_cons_succ]
        refine wpAnyH_done (by kernel_rfl) ?_ _
        try unfold NoPanic
        clear hHeld HF
        have HIN := Lib.hid (ActD.inv HDO.out HI.out.1 (by have := HI.out.2.2; omega))
        have HTL := Lib.hid (ActD.time_le (d := d) now)
        go_wp2
        go_roundw
        case rel => exact ⟨k + 1, by omega, by go_num, _, _, v5, A5, c5, _, HD.out, HIN.out.1, by have := HIN.out.2; have := HI.out.2.1; omega, by have := HTL.out; have := HI.out.2.2; omega⟩
        case measure => simp [intOf]; omega
      · obtain rfl : k = len0 := by omega
        go_upto_region 11 with (first
          | (go_at_call 14; (with_reducible refine (lowered_any _ a1 len1 cap1 z1 (HY1.out.step HP.out.b) h30).mono ?_); rintro en w4 ⟨qs, f, cs, rfl, S4, B4, hc4, h44⟩; have HS4 := Lib.hid (And.intro S4 (And.intro (HP.out.step B4) (And.intro hc4 (And.intro h44 HP.out.b)))); clear S4 B4 hc4 h44)
          | (go_at_call 16; (with_reducible refine (costs_any _).mono ?_); rintro en w5 ⟨rfl, hw5⟩; have hB5 := (Below.refl w4.heap.size w4).alloc (Nat.le_refl _) (.cells #[.int .u16 96, .int .u16 1, .int .u16 65535, .int .u16 300, .int .u16 96, .int .u16 65534, .int .u16 10] 32); have hC5 := costs_cost w4; rw [← hw5] at hB5 hC5; have HS5 := Lib.hid (And.intro (HS4.out.1.below hB5) (And.intro (HS4.out.2.1.step hB5) hC5)); clear hB5 hC5 hw5)
          | (go_at_call 15; (with_reducible refine (select_any w5 w.heap.size q v L HS5.out.2.1.p.r HI.out.1.up HI.out.1.ok (by have := HI.out.1.len; have := HI.out.2.1; omega) wr.heap.size qs cs f HS5.out.1 _ 7 7 cfL HS5.out.2.2).mono ?_); rintro en w6 ⟨v6, rs, rfl, K6, O6, B6, hr6⟩; obtain ⟨Ar, cr, hv6, hro⟩ := O6.ros; obtain ⟨nr, hnr⟩ : ∃ nr, nr = rs.length := ⟨_, rfl⟩; rw [← hnr] at hv6; have HS6 := Lib.hid (And.intro K6 (And.intro (hv6 ▸ O6) (And.intro (HS5.out.1.below B6) (And.intro (HS5.out.2.1.step B6) (And.intro hr6 (And.intro hro (And.intro hnr (HS5.out.2.1.b.trans (B6.mono HS5.out.2.1.b.size))))))))); subst hv6; clear K6 O6 B6 hr6 hro hnr))
        obtain ⟨lo, hlo⟩ : ∃ lo, lo = wr.heap.size := ⟨_, rfl⟩
        have HSR : Hid (SrcAt lo w6 qs f cs) := Lib.hid (by rw [hlo]; exact HS6.out.2.2.1)
        clear hlo
        have HNR0 := Lib.hid HS6.out.2.2.2.2.2.2.1
        have hnr9 : nr ≤ 900 := by have := HNR0.out; have := HS6.out.2.2.2.2.1; have := HI.out.1.len; have := HI.out.2.1; omega
        obtain ⟨bs, hbs⟩ : ∃ bs, bs = rs.map fun r => (r.a, r.n) := ⟨_, rfl⟩
        have HCNT : Hid (cntB bs 18 = nr) := Lib.hid (by rw [hbs, HNR0.out]; exact HS6.out.1.count HI.out.1)
        have HBS := Lib.hid hbs
        have HRO := Lib.hid HS6.out.2.2.2.2.2.1
        have HQ6 := Lib.hid HS6.out.2.2.2.1
        clear hbs
        go_wp2
        go_loopw [10, 11] (fun nv iv wt => ∃ k : Nat, k ≤ 18 ∧ nv = .int .i64 (cntB bs k : Nat) ∧ iv = .int .i64 k ∧ Hid (Below w6.heap.size w6 wt)) (fun _ iv _ => 18 - (intOf iv).toNat)
        case atStart => exact ⟨0, Nat.zero_le _, rfl, rfl, Below.refl _ _⟩
        case round =>
          obtain ⟨k, hk, rfl, rfl, HQ⟩ := hrel
          clear HP HS4 HS5
          by_cases hlt2 : k < 18
          · obtain ⟨cn, hcn⟩ : ∃ cn, cn = cntB bs k := ⟨_, rfl⟩
            have hcn18 : cn ≤ 18 := by rw [hcn]; exact Nat.le_trans (cntB_le _ _) hk
            have HCS := Lib.hid (cntB_succ bs k)
            rw [← hcn] at HCS ⊢
            have hw8 : IntKind.u8.wrap (k : Int) = (k : Int) := by rw [IntKind.wrap_u8]; omega
            obtain ⟨a, ha⟩ : ∃ a, a = pA k := ⟨_, rfl⟩
            obtain ⟨n, hn⟩ : ∃ n, n = pN k := ⟨_, rfl⟩
            obtain ⟨F, hF⟩ : ∃ F, F = Src.fk k := ⟨_, rfl⟩
            have hF18 : F < 18 := by rw [hF]; exact Src.fk_lt k
            have CP : Hid (∀ W, Calls Try.prog 17 #[.int .u8 (k : Int)] W fun e w' => e = .returned (.agg #[.int .u32 (a : Int), .int .u8 (n : Int)]) ∧ Below W.heap.size W w') := Lib.hid fun W => by rw [ha, hn]; exact Src.prefix_n k (by omega) W
            have CF : Hid (∀ W, Calls Try.prog 18 #[.agg #[.int .u32 (a : Int), .int .u8 (n : Int)]] W fun e w' => e = .returned (.int .i64 (F : Int)) ∧ Below W.heap.size W w') := Lib.hid fun W => by rw [ha, hn, hF]; exact Src.first_n k W
            have HAL : Hid (a < 4294967296 ∧ n < 256) := Lib.hid ⟨by rw [ha]; exact Src.pA_lt k, by rw [hn]; have := Src.pN_le k; omega⟩
            rw [← hF, ← ha, ← hn] at HCS
            clear hF ha hn hcn
            go_upto_region 16 with (fail)
            have HW0 := Lib.hid (And.intro (HQ.out.alloc HQ.out.size (.cells #[.int .u32 0, .int .u8 0, .int .i64 0, .int .u16 0, .int .u16 0] 53)) (And.intro (heap_alloc_new wr (.cells #[.int .u32 0, .int .u8 0, .int .i64 0, .int .u16 0, .int .u16 0] 53)) HQ.out.size))
            clear HQ
            generalize wr.alloc _ = w5' at *
            generalize wr.heap.size = wb at *
            go_upto_region 18 with (first
              | (go_at_call 17; (with_reducible refine (CP.out _).mono ?_); rintro en w7 ⟨rfl, B7⟩; have H7 := Lib.hid (And.intro (HW0.out.1.trans (B7.mono HW0.out.1.size)) (And.intro (brow B7 HW0.out.2.1) HW0.out.2.2)); clear B7))
            have HW8 : Hid (SelW w6 (w7.alloc (.cells #[.int .u32 (a : Int), .int .u8 (n : Int)] 39)) wb w7.heap.size a n Ro.zero) := Lib.hid ⟨H7.out.1.alloc H7.out.1.size _, H7.out.2.2, fun h => by have := (Array.getElem?_eq_some_iff.1 H7.out.2.1).1; omega, brow ((Below.refl w7.heap.size w7).alloc (Nat.le_refl _) _) H7.out.2.1, heap_alloc_new w7 _⟩
            clear H7 CP HW0
            generalize w7.alloc _ = w8 at *
            generalize w7.heap.size = pb at *
            obtain ⟨p0, p1, -⟩ := row2 HW8.out.p
            by_cases hFk : F = k
            · subst hFk
              go_upto_region 19 with (first
                | (go_at_call 18; clear p0 p1; (with_reducible refine (CF.out _).mono ?_); rintro en w9 ⟨rfl, B9⟩; have HW9 := Lib.hid (HW8.out.step B9); clear B9))
              clear CF HW8
              go_wp2
              go_loopw [13, 15] (fun hv bv wt => ∃ b : Nat, b ≤ 8 ∧ ∃ (x : Nat) (r : Ro), hv = .bool (decide (x < 65535)) ∧ bv = .int .i64 b ∧ Hid (stB f L a n b = (x, r)) ∧ Hid (SelW w6 wt wb pb a n r)) (fun _ bv _ => 8 - (intOf bv).toNat)
              case atStart => exact ⟨0, Nat.zero_le _, 65535, Ro.zero, rfl, rfl, stB_zero _ _ _ _, HW9.out⟩
              case round =>
                obtain ⟨b, hb, x, r, rfl, rfl, HXR, HW⟩ := hrel
                clear HW9
                obtain ⟨hz, hhz⟩ : ∃ hz, hz = decide (x < 65535) := ⟨_, rfl⟩
                rw [← hhz]
                have HHZ := Lib.hid hhz
                have HXM : Hid (x = 65535 ∨ x < 65535 ∧ r.m = x) := Lib.hid (by
                  have := stB_form f L a n b
                  rw [HXR.out] at this
                  rcases this with h | h
                  · left; injection h
                  · exact Or.inr h)
                clear hhz
                by_cases hlt3 : b < 8
                · have HT5 := Lib.hid ((HQ6.out.step HW.out.b).t)
                  have HESL := Lib.hid (fun (W : World) (hW : Below w6.heap.size w6 W) => (HQ6.out.step hW).esl.2)
                  rcases HI.out.1.look a n b with ⟨e, heL, hea, hen, heb, fi, hfl, hfe, hix⟩ | ⟨hix, hno⟩
                  · obtain ⟨cb, hcb⟩ : ∃ cb, cb = cfL b := ⟨_, rfl⟩
                    have hcb16 : cb ≤ 65535 := by rw [hcb]; exact cfL_le b
                    have HST : Hid (stB f L a n (b + 1) = stp cfL f (x, r) e) := Lib.hid (by
                      have := stB_hit HI.out.1 f heL
                      rw [hea, hen, heb, HXR.out] at this
                      exact this)
                    have HNO : Hid (¬ (e.m + cb < x ∧ feasE f e = true) → stB f L a n (b + 1) = (x, r)) := Lib.hid fun h => by rw [HST.out]; exact stp_no (by rw [heb, ← hcb]; exact h)
                    have HYES : Hid (e.m + cb < x → feasE f e = true → stB f L a n (b + 1) = (e.m + cb, ⟨a, n, b, e.m + cb, e.s⟩)) := Lib.hid fun h1 h2 => by
                      rw [HST.out, stp_yes (by rw [heb, ← hcb]; exact h1) h2, hea, hen, heb, ← hcb]
                    have hem := (HI.out.1.ok e heL).m
                    have HCO : Hid (∀ W, Calls Try.prog 19 #[.int .i64 (b : Int)] W fun en w' => en = .returned (.int .u16 (cb : Int)) ∧ Below W.heap.size W w') := Lib.hid fun W => by rw [hcb]; exact lcost_any W b
                    obtain ⟨lb, lo2, rfl, hlb, hEL⟩ := HQ6.out.esl.2 fi hfl
                    rw [hfe] at hEL
                    have HFI : Hid (∀ W, Below w6.heap.size w6 W → Calls Try.prog 12 #[.agg #[.slice (some ⟨lb, lo2, none⟩) l.length c, .int .u64 (now : Int)], .agg #[.int .u32 (a : Int), .int .u8 (n : Int)], .int .i64 (b : Int)] W fun en w' => en = .returned (.int .i64 (fi : Int)) ∧ Below W.heap.size W w') := Lib.hid fun W hW => by
                      have := lfind_any W (some ⟨lb, lo2, none⟩) l.length c now l rfl (by have := HI.out.2.1; omega) (HESL.out W hW) a n b
                      rw [hix] at this
                      exact this
                    have HFE0 : Hid (∀ W, Below w6.heap.size w6 W → Calls Try.prog 20 #[.pointer (some ⟨qs, 0, none⟩), .agg #[.int .u32 (a : Int), .int .u8 (n : Int)], .agg #[.int .u16 (e.s : Int), .int .u16 (e.m : Int)]] W fun en w' => en = .returned (.bool (feasE f e)) ∧ Below W.heap.size W w') := Lib.hid fun W hW => by
                      have := Src.feas_any W qs f cs (HSR.out.below hW) a n HAL.out.1 HAL.out.2 (e.s, e.m)
                      rw [show f.feas a n (e.s, e.m) = feasE f e by rw [← hea, ← hen]; rfl] at this
                      exact this
                    have HELQ : Hid (∀ W, Below w6.heap.size w6 W → EAt W lb (lo2 + fi * 7) e) := Lib.hid fun W hW => hEL.keep (hW.block lb hlb)
                    have HTQ : Hid (∀ W, Below w6.heap.size w6 W → W.heap[g]? = some (.cells #[.slice (some ⟨lb, lo2, none⟩) l.length c, .int .u64 (now : Int)] 29 (0, 0))) := Lib.hid fun W hW => brow hW HQ6.out.t
                    have HLBQ := Lib.hid hlb
                    have hfi2 : (fi : Int) < (l.length : Int) := by omega
                    have hfi3 : ¬ (fi : Int) < 0 := by omega
                    have hfi4 : (0 : Int) ≤ (fi : Int) := by omega
                    clear heL hea hen heb hfl hfe hix hcb hlb hEL HST
                    obtain ⟨t0, t1, -⟩ := row2 HT5.out
                    obtain ⟨p0, p1, -⟩ := row2 HW.out.p
                    go_upto_region 23 with (first
                      | (go_at_call 12; clear t0 t1 p0 p1; (with_reducible refine (HFI.out _ HW.out.b).mono ?_); rintro en w10 ⟨rfl, B10⟩; have HW10 := Lib.hid (HW.out.step B10); clear B10))
                    clear HT5 HESL HFI HW
                    have HT := Lib.hid (HTQ.out _ HW10.out.b)
                    have HEL := Lib.hid (And.intro (Nat.lt_of_lt_of_le HLBQ.out HW10.out.b.size) (HELQ.out _ HW10.out.b))
                    by_cases h65 : cb = 65535
                    · subst h65
                      have HNX := Lib.hid (HNO.out (fun h => by have := HXM.out; have := h.1; omega))
                      clear HNO HYES HFE0
                      refine wp_region_noPanic ?_
                      refine wp_region_held_drew (S := fun y : World => Below w10.heap.size w10 y) (by kernel_rfl) ((Below.refl _ _).drew) (fun hHeld => ?_)
                      generalize w10.drew = wd at *
                      refine wpAnyH_take (i := 0) (oi := { dst := some 77, op := Op.move (Operand.tmp 16), type := 3, pos := "law.go:168", after := #[], guard := none }) (v := .int .i64 (fi : Int)) rfl (by kernel_rfl) (by kernel_rfl) (by kernel_rfl) (fun _ _ _ h => h) (Or.inl ⟨by rfl, fun w hSw => by go_simp⟩) (by assumption) ?_
                      try simp only [Act.put, List.setIfInBounds_toArray, List.set_cons_zero, List.set_cons_succ]
                      refine wpAnyH_take (i := 1) (oi := { dst := some 78, op := Op.binOp BinOp.lss 3 (Operand.tmp 77) (Operand.const (Value.int IntKind.i64 0)) 3, type := 4, pos := "law.go:168", after := #[{ on := 0, ground := Ground.data }], guard := none }) (v := .bool false) rfl (by kernel_rfl) (by kernel_rfl) (by kernel_rfl) (fun _ _ _ h => h) (Or.inl ⟨by rfl, fun w hSw => by go_simp⟩) (by assumption) ?_
                      try simp only [Act.put, List.setIfInBounds_toArray, List.set_cons_zero, List.set_cons_succ]
                      refine wpAnyH_take (i := 2) (oi := { dst := some 79, op := Op.move (Operand.tmp 78), type := 4, pos := "law.go:168", after := #[{ on := 1, ground := Ground.data }], guard := none }) (v := .bool false) rfl (by kernel_rfl) (by kernel_rfl) (by kernel_rfl) (fun _ _ _ h => h) (Or.inl ⟨by rfl, fun w hSw => by go_simp⟩) (by assumption) ?_
                      try simp only [Act.put, List.setIfInBounds_toArray, List.set_cons_zero, List.set_cons_succ]
                      refine wpAnyH_take (i := 3) (oi := { dst := some 80, op := Op.move (Operand.tmp 15), type := 3, pos := "law.go:168", after := #[{ on := 2, ground := Ground.guard }], guard := some (2, false) }) (v := .int .i64 (b : Int)) rfl (by kernel_rfl) (by kernel_rfl) (by kernel_rfl) (fun _ _ _ h => h) (Or.inl ⟨by rfl, fun w hSw => by go_simp⟩) (by assumption) ?_
                      try simp only [Act.put, List.setIfInBounds_toArray, List.set_cons_zero, List.set_cons_succ]
                      refine wpAnyH_ready (rs := [4]) (by kernel_rfl) (by simp) ?_
                      refine AllReadyH.cons (o := { dst := some 81, op := Op.call { callee := Callee.value (Operand.func 19), args := #[Operand.tmp 80], argTypes := #[3] }, type := 32, pos := "law.go:168", after := #[{ on := 3, ground := Ground.data }, { on := 2, ground := Ground.chain }, { on := 2, ground := Ground.guard }], guard := some (2, false) }) rfl (fun K hK => ?_) AllReadyH.nil
                      go_simp
                      with_reducible refine (HCO.out _).mono ?_
                      rintro en wn ⟨rfl, hB⟩
                      have hS2 := hHeld.trans (hB.mono hHeld.size)
                      refine hK.out _ _ (hS2) (fun hHeld2 => ?_)
                      clear hK K hHeld
                      have hHeld := hHeld2
                      clear hHeld2
                      try simp only [Act.put, List.setIfInBounds_toArray, List.set_cons_zero, List.set_cons_succ]
                      clear hB hS2 wd
                      generalize wn = wd at *
                      refine wpAnyH_take (i := 5) (oi := { dst := some 82, op := Op.binOp BinOp.eql 32 (Operand.tmp 81) (Operand.const (Value.int IntKind.u16 65535)) 32, type := 4, pos := "law.go:168", after := #[{ on := 4, ground := Ground.data }, { on := 2, ground := Ground.guard }], guard := some (2, false) }) (v := .bool true) rfl (by kernel_rfl) (by kernel_rfl) (by kernel_rfl) (fun _ _ _ h => h) (Or.inl ⟨by rfl, fun w hSw => by go_simp⟩) (by assumption) ?_
                      try simp only [Act.put, List.setIfInBounds_toArray, List.set_cons_zero, List.set_cons_succ]
                      refine wpAnyH_take (i := 6) (oi := { dst := some 83, op := Op.pick (Operand.tmp 79) (Operand.const (Value.bool true)) (Operand.tmp 82), type := 4, pos := "law.go:168", after := #[{ on := 2, ground := Ground.data }, { on := 5, ground := Ground.data }], guard := none }) (v := .bool true) rfl (by kernel_rfl) (by kernel_rfl) (by kernel_rfl) (fun _ _ _ h => h) (Or.inl ⟨by rfl, fun w hSw => by go_simp⟩) (by assumption) ?_
                      try simp only [Act.put, List.setIfInBounds_toArray, List.set_cons_zero, List.set_cons_succ]
                      refine wpAnyH_take (i := 7) (oi := { dst := some 84, op := Op.move (Operand.tmp 83), type := 4, pos := "law.go:168", after := #[{ on := 6, ground := Ground.data }, { on := 4, ground := Ground.chain }], guard := none }) (v := .bool true) rfl (by kernel_rfl) (by kernel_rfl) (by kernel_rfl) (fun _ _ _ h => h) (Or.inl ⟨by rfl, fun w hSw => by go_simp⟩) (by assumption) ?_
                      try simp only [Act.put, List.setIfInBounds_toArray, List.set_cons_zero, List.set_cons_succ]
                      refine wpAnyH_take (i := 8) (oi := { dst := some 85, op := Op.move (Operand.tmp 8), type := 46, pos := "law.go:168", after := #[{ on := 7, ground := Ground.guard }], guard := some (7, false) }) (v := undef) rfl (by kernel_rfl) (by kernel_rfl) (by kernel_rfl) (fun _ _ _ h => h) (Or.inr ⟨by rfl, rfl⟩) (by assumption) ?_
                      try simp only [Act.put, List.setIfInBounds_toArray, List.set_cons_zero, List.set_cons_succ]
                      refine wpAnyH_take (i := 9) (oi := { dst := some 86, op := Op.load 39 (Operand.tmp 14), type := 39, pos := "law.go:168", after := #[{ on := 7, ground := Ground.guard }], guard := some (7, false) }) (v := undef) rfl (by kernel_rfl) (by kernel_rfl) (by kernel_rfl) (fun _ _ _ h => h) (Or.inr ⟨by rfl, rfl⟩) (by assumption) ?_
                      try simp only [Act.put, List.setIfInBounds_toArray, List.set_cons_zero, List.set_cons_succ]
                      refine wpAnyH_take (i := 10) (oi := { dst := some 87, op := Op.fieldAddr 29 (Operand.tmp 6) 0, type := 0, pos := "law.go:168", after := #[{ on := 7, ground := Ground.guard }], guard := some (7, false) }) (v := undef) rfl (by kernel_rfl) (by kernel_rfl) (by kernel_rfl) (fun _ _ _ h => h) (Or.inr ⟨by rfl, rfl⟩) (by assumption) ?_
                      try simp only [Act.put, List.setIfInBounds_toArray, List.set_cons_zero, List.set_cons_succ]
                      refine wpAnyH_take (i := 11) (oi := { dst := some 88, op := Op.load 26 (Operand.tmp 87), type := 26, pos := "law.go:168", after := #[{ on := 10, ground := Ground.data }, { on := 7, ground := Ground.guard }], guard := some (7, false) }) (v := undef) rfl (by kernel_rfl) (by kernel_rfl) (by kernel_rfl) (fun _ _ _ h => h) (Or.inr ⟨by rfl, rfl⟩) (by assumption) ?_
                      try simp only [Act.put, List.setIfInBounds_toArray, List.set_cons_zero, List.set_cons_succ]
                      refine wpAnyH_take (i := 12) (oi := { dst := some 89, op := Op.move (Operand.tmp 16), type := 3, pos := "law.go:168", after := #[{ on := 7, ground := Ground.guard }], guard := some (7, false) }) (v := undef) rfl (by kernel_rfl) (by kernel_rfl) (by kernel_rfl) (fun _ _ _ h => h) (Or.inr ⟨by rfl, rfl⟩) (by assumption) ?_
                      try simp only [Act.put, List.setIfInBounds_toArray, List.set_cons_zero, List.set_cons_succ]
                      refine wpAnyH_take (i := 13) (oi := { dst := some 90, op := Op.indexAddr 26 (Operand.tmp 88) (Operand.tmp 89), type := 0, pos := "law.go:168", after := #[{ on := 11, ground := Ground.data }, { on := 12, ground := Ground.data }, { on := 7, ground := Ground.guard }], guard := some (7, false) }) (v := undef) rfl (by kernel_rfl) (by kernel_rfl) (by kernel_rfl) (fun _ _ _ h => h) (Or.inr ⟨by rfl, rfl⟩) (by assumption) ?_
                      try simp only [Act.put, List.setIfInBounds_toArray, List.set_cons_zero, List.set_cons_succ]
                      refine wpAnyH_take (i := 14) (oi := { dst := some 91, op := Op.fieldAddr 43 (Operand.tmp 90) 3, type := 0, pos := "law.go:168", after := #[{ on := 13, ground := Ground.data }, { on := 7, ground := Ground.guard }], guard := some (7, false) }) (v := undef) rfl (by kernel_rfl) (by kernel_rfl) (by kernel_rfl) (fun _ _ _ h => h) (Or.inr ⟨by rfl, rfl⟩) (by assumption) ?_
                      try simp only [Act.put, List.setIfInBounds_toArray, List.set_cons_zero, List.set_cons_succ]
                      refine wpAnyH_take (i := 15) (oi := { dst := some 92, op := Op.load 41 (Operand.tmp 91), type := 41, pos := "law.go:168", after := #[{ on := 14, ground := Ground.data }, { on := 7, ground := Ground.guard }], guard := some (7, false) }) (v := undef) rfl (by kernel_rfl) (by kernel_rfl) (by kernel_rfl) (fun _ _ _ h => h) (Or.inr ⟨by rfl, rfl⟩) (by assumption) ?_
                      try simp only [Act.put, List.setIfInBounds_toArray, List.set_cons_zero, List.set_cons_succ]
                      refine wpAnyH_take (i := 16) (oi := { dst := some 93, op := Op.call { callee := Callee.value (Operand.func 20), args := #[Operand.tmp 85, Operand.tmp 86, Operand.tmp 92], argTypes := #[46, 39, 41] }, type := 4, pos := "law.go:168", after := #[{ on := 8, ground := Ground.data }, { on := 9, ground := Ground.data }, { on := 15, ground := Ground.data }, { on := 7, ground := Ground.chain }, { on := 7, ground := Ground.guard }], guard := some (7, false) }) (v := undef) rfl (by kernel_rfl) (by kernel_rfl) (by kernel_rfl) (fun _ _ _ h => h) (Or.inr ⟨by rfl, rfl⟩) (by assumption) ?_
                      try simp only [Act.put, List.setIfInBounds_toArray, List.set_cons_zero, List.set_cons_succ]
                      refine wpAnyH_take (i := 17) (oi := { dst := some 94, op := Op.unOp UnOp.not 4 (Operand.tmp 93), type := 4, pos := "law.go:168", after := #[{ on := 16, ground := Ground.data }, { on := 7, ground := Ground.guard }], guard := some (7, false) }) (v := undef) rfl (by kernel_rfl) (by kernel_rfl) (by kernel_rfl) (fun _ _ _ h => h) (Or.inr ⟨by rfl, rfl⟩) (by assumption) ?_
                      try simp only [Act.put, List.setIfInBounds_toArray, List.set_cons_zero, List.set_cons_succ]
                      refine wpAnyH_take (i := 18) (oi := { dst := some 95, op := Op.pick (Operand.tmp 84) (Operand.const (Value.bool true)) (Operand.tmp 94), type := 4, pos := "law.go:168", after := #[{ on := 7, ground := Ground.data }, { on := 17, ground := Ground.data }], guard := none }) (v := .bool true) rfl (by kernel_rfl) (by kernel_rfl) (by kernel_rfl) (fun _ _ _ h => h) (Or.inl ⟨by rfl, fun w hSw => by go_simp⟩) (by assumption) ?_
                      try simp only [Act.put, List.setIfInBounds_toArray, List.set_cons_zero, List.set_cons_succ]
                      refine wpAnyH_done (by kernel_rfl) ?_ _
                      try unfold NoPanic
                      have HF := Lib.hid (HW10.out.step hHeld)
                      clear hHeld
                      go_wp2
                      go_roundw
                      case rel => exact ⟨b + 1, by omega, x, r, by rw [HHZ.out], by go_num, HNX.out, HF.out⟩
                      case measure => simp [intOf]; omega
                    · have hc65 : ¬ (cb : Int) = 65535 := by omega
                      have HFE : Hid (∀ W, Below w10.heap.size w10 W → Calls Try.prog 20 #[.pointer (some ⟨qs, 0, none⟩), .agg #[.int .u32 (a : Int), .int .u8 (n : Int)], .agg #[.int .u16 (e.s : Int), .int .u16 (e.m : Int)]] W fun en w' => en = .returned (.bool (feasE f e)) ∧ Below W.heap.size W w') := Lib.hid fun W hW => HFE0.out W (HW10.out.step hW).b
                      clear HFE0
                      cases hfz : feasE f e
                      · rw [hfz] at HFE HNO
                        have HNX := Lib.hid (HNO.out (fun h => by have := h.2; cases this))
                        clear hfz HNO HYES
                        refine wp_region_noPanic ?_
                        refine wp_region_held_drew (S := fun y : World => Below w10.heap.size w10 y) (by kernel_rfl) ((Below.refl _ _).drew) (fun hHeld => ?_)
                        generalize w10.drew = wd at *
                        refine wpAnyH_take (i := 0) (oi := { dst := some 77, op := Op.move (Operand.tmp 16), type := 3, pos := "law.go:168", after := #[], guard := none }) (v := .int .i64 (fi : Int)) rfl (by kernel_rfl) (by kernel_rfl) (by kernel_rfl) (fun _ _ _ h => h) (Or.inl ⟨by rfl, fun w hSw => by go_simp⟩) (by assumption) ?_
                        try simp only [Act.put, List.setIfInBounds_toArray, List.set_cons_zero, List.set_cons_succ]
                        refine wpAnyH_take (i := 1) (oi := { dst := some 78, op := Op.binOp BinOp.lss 3 (Operand.tmp 77) (Operand.const (Value.int IntKind.i64 0)) 3, type := 4, pos := "law.go:168", after := #[{ on := 0, ground := Ground.data }], guard := none }) (v := .bool false) rfl (by kernel_rfl) (by kernel_rfl) (by kernel_rfl) (fun _ _ _ h => h) (Or.inl ⟨by rfl, fun w hSw => by go_simp⟩) (by assumption) ?_
                        try simp only [Act.put, List.setIfInBounds_toArray, List.set_cons_zero, List.set_cons_succ]
                        refine wpAnyH_take (i := 2) (oi := { dst := some 79, op := Op.move (Operand.tmp 78), type := 4, pos := "law.go:168", after := #[{ on := 1, ground := Ground.data }], guard := none }) (v := .bool false) rfl (by kernel_rfl) (by kernel_rfl) (by kernel_rfl) (fun _ _ _ h => h) (Or.inl ⟨by rfl, fun w hSw => by go_simp⟩) (by assumption) ?_
                        try simp only [Act.put, List.setIfInBounds_toArray, List.set_cons_zero, List.set_cons_succ]
                        refine wpAnyH_take (i := 3) (oi := { dst := some 80, op := Op.move (Operand.tmp 15), type := 3, pos := "law.go:168", after := #[{ on := 2, ground := Ground.guard }], guard := some (2, false) }) (v := .int .i64 (b : Int)) rfl (by kernel_rfl) (by kernel_rfl) (by kernel_rfl) (fun _ _ _ h => h) (Or.inl ⟨by rfl, fun w hSw => by go_simp⟩) (by assumption) ?_
                        try simp only [Act.put, List.setIfInBounds_toArray, List.set_cons_zero, List.set_cons_succ]
                        refine wpAnyH_ready (rs := [4]) (by kernel_rfl) (by simp) ?_
                        refine AllReadyH.cons (o := { dst := some 81, op := Op.call { callee := Callee.value (Operand.func 19), args := #[Operand.tmp 80], argTypes := #[3] }, type := 32, pos := "law.go:168", after := #[{ on := 3, ground := Ground.data }, { on := 2, ground := Ground.chain }, { on := 2, ground := Ground.guard }], guard := some (2, false) }) rfl (fun K hK => ?_) AllReadyH.nil
                        go_simp
                        with_reducible refine (HCO.out _).mono ?_
                        rintro en wn ⟨rfl, hB⟩
                        have hS2 := hHeld.trans (hB.mono hHeld.size)
                        refine hK.out _ _ (hS2) (fun hHeld2 => ?_)
                        clear hK K hHeld
                        have hHeld := hHeld2
                        clear hHeld2
                        try simp only [Act.put, List.setIfInBounds_toArray, List.set_cons_zero, List.set_cons_succ]
                        clear hB hS2 wd
                        generalize wn = wd at *
                        refine wpAnyH_take (i := 5) (oi := { dst := some 82, op := Op.binOp BinOp.eql 32 (Operand.tmp 81) (Operand.const (Value.int IntKind.u16 65535)) 32, type := 4, pos := "law.go:168", after := #[{ on := 4, ground := Ground.data }, { on := 2, ground := Ground.guard }], guard := some (2, false) }) (v := .bool false) rfl (by kernel_rfl) (by kernel_rfl) (by kernel_rfl) (fun _ _ _ h => h) (Or.inl ⟨by rfl, fun w hSw => by go_simp⟩) (by assumption) ?_
                        try simp only [Act.put, List.setIfInBounds_toArray, List.set_cons_zero, List.set_cons_succ]
                        refine wpAnyH_take (i := 6) (oi := { dst := some 83, op := Op.pick (Operand.tmp 79) (Operand.const (Value.bool true)) (Operand.tmp 82), type := 4, pos := "law.go:168", after := #[{ on := 2, ground := Ground.data }, { on := 5, ground := Ground.data }], guard := none }) (v := .bool false) rfl (by kernel_rfl) (by kernel_rfl) (by kernel_rfl) (fun _ _ _ h => h) (Or.inl ⟨by rfl, fun w hSw => by go_simp⟩) (by assumption) ?_
                        try simp only [Act.put, List.setIfInBounds_toArray, List.set_cons_zero, List.set_cons_succ]
                        refine wpAnyH_take (i := 7) (oi := { dst := some 84, op := Op.move (Operand.tmp 83), type := 4, pos := "law.go:168", after := #[{ on := 6, ground := Ground.data }, { on := 4, ground := Ground.chain }], guard := none }) (v := .bool false) rfl (by kernel_rfl) (by kernel_rfl) (by kernel_rfl) (fun _ _ _ h => h) (Or.inl ⟨by rfl, fun w hSw => by go_simp⟩) (by assumption) ?_
                        try simp only [Act.put, List.setIfInBounds_toArray, List.set_cons_zero, List.set_cons_succ]
                        refine wpAnyH_take (i := 8) (oi := { dst := some 85, op := Op.move (Operand.tmp 8), type := 46, pos := "law.go:168", after := #[{ on := 7, ground := Ground.guard }], guard := some (7, false) }) (v := .pointer (some ⟨qs, 0, none⟩)) rfl (by kernel_rfl) (by kernel_rfl) (by kernel_rfl) (fun _ _ _ h => h) (Or.inl ⟨by rfl, fun w hSw => by go_simp⟩) (by assumption) ?_
                        try simp only [Act.put, List.setIfInBounds_toArray, List.set_cons_zero, List.set_cons_succ]
                        refine wpAnyH_take (i := 9) (oi := { dst := some 86, op := Op.load 39 (Operand.tmp 14), type := 39, pos := "law.go:168", after := #[{ on := 7, ground := Ground.guard }], guard := some (7, false) }) (v := .agg #[.int .u32 (a : Int), .int .u8 (n : Int)]) rfl (by kernel_rfl) (by kernel_rfl) (by kernel_rfl) (fun _ _ _ h => h) (Or.inl ⟨by rfl, fun w hSw => by obtain ⟨p0, p1, -⟩ := row2 (brow hSw HW10.out.p); go_simp⟩) (by assumption) ?_
                        try simp only [Act.put, List.setIfInBounds_toArray, List.set_cons_zero, List.set_cons_succ]
                        refine wpAnyH_take (i := 10) (oi := { dst := some 87, op := Op.fieldAddr 29 (Operand.tmp 6) 0, type := 0, pos := "law.go:168", after := #[{ on := 7, ground := Ground.guard }], guard := some (7, false) }) (v := .pointer (some ⟨g, 0, none⟩)) rfl (by kernel_rfl) (by kernel_rfl) (by kernel_rfl) (fun _ _ _ h => h) (Or.inl ⟨by rfl, fun w hSw => by go_simp⟩) (by assumption) ?_
                        try simp only [Act.put, List.setIfInBounds_toArray, List.set_cons_zero, List.set_cons_succ]
                        refine wpAnyH_take (i := 11) (oi := { dst := some 88, op := Op.load 26 (Operand.tmp 87), type := 26, pos := "law.go:168", after := #[{ on := 10, ground := Ground.data }, { on := 7, ground := Ground.guard }], guard := some (7, false) }) (v := .slice (some ⟨lb, lo2, none⟩) l.length c) rfl (by kernel_rfl) (by kernel_rfl) (by kernel_rfl) (fun _ _ _ h => h) (Or.inl ⟨by rfl, fun w hSw => by obtain ⟨p0, p1, -⟩ := row2 (brow hSw HT.out); go_simp⟩) (by assumption) ?_
                        try simp only [Act.put, List.setIfInBounds_toArray, List.set_cons_zero, List.set_cons_succ]
                        refine wpAnyH_take (i := 12) (oi := { dst := some 89, op := Op.move (Operand.tmp 16), type := 3, pos := "law.go:168", after := #[{ on := 7, ground := Ground.guard }], guard := some (7, false) }) (v := .int .i64 (fi : Int)) rfl (by kernel_rfl) (by kernel_rfl) (by kernel_rfl) (fun _ _ _ h => h) (Or.inl ⟨by rfl, fun w hSw => by go_simp⟩) (by assumption) ?_
                        try simp only [Act.put, List.setIfInBounds_toArray, List.set_cons_zero, List.set_cons_succ]
                        refine wpAnyH_take (i := 13) (oi := { dst := some 90, op := Op.indexAddr 26 (Operand.tmp 88) (Operand.tmp 89), type := 0, pos := "law.go:168", after := #[{ on := 11, ground := Ground.data }, { on := 12, ground := Ground.data }, { on := 7, ground := Ground.guard }], guard := some (7, false) }) (v := .pointer (some ⟨lb, lo2 + fi * 7, none⟩)) rfl (by kernel_rfl) (by kernel_rfl) (by kernel_rfl) (fun _ _ _ h => h) (Or.inl ⟨by rfl, fun w hSw => by go_simp⟩) (by assumption) ?_
                        try simp only [Act.put, List.setIfInBounds_toArray, List.set_cons_zero, List.set_cons_succ]
                        refine wpAnyH_take (i := 14) (oi := { dst := some 91, op := Op.fieldAddr 43 (Operand.tmp 90) 3, type := 0, pos := "law.go:168", after := #[{ on := 13, ground := Ground.data }, { on := 7, ground := Ground.guard }], guard := some (7, false) }) (v := .pointer (some ⟨lb, lo2 + fi * 7 + 4, none⟩)) rfl (by kernel_rfl) (by kernel_rfl) (by kernel_rfl) (fun _ _ _ h => h) (Or.inl ⟨by rfl, fun w hSw => by go_simp⟩) (by assumption) ?_
                        try simp only [Act.put, List.setIfInBounds_toArray, List.set_cons_zero, List.set_cons_succ]
                        refine wpAnyH_take (i := 15) (oi := { dst := some 92, op := Op.load 41 (Operand.tmp 91), type := 41, pos := "law.go:168", after := #[{ on := 14, ground := Ground.data }, { on := 7, ground := Ground.guard }], guard := some (7, false) }) (v := .agg #[.int .u16 (e.s : Int), .int .u16 (e.m : Int)]) rfl (by kernel_rfl) (by kernel_rfl) (by kernel_rfl) (fun _ _ _ h => h) (Or.inl ⟨by rfl, fun w hSw => by obtain ⟨k0, k1, k2, k3, k4, k5, k6⟩ := HEL.out.2.keep (hSw.block lb HEL.out.1); go_simp⟩) (by assumption) ?_
                        try simp only [Act.put, List.setIfInBounds_toArray, List.set_cons_zero, List.set_cons_succ]
                        refine wpAnyH_ready (rs := [16]) (by kernel_rfl) (by simp) ?_
                        refine AllReadyH.cons (o := { dst := some 93, op := Op.call { callee := Callee.value (Operand.func 20), args := #[Operand.tmp 85, Operand.tmp 86, Operand.tmp 92], argTypes := #[46, 39, 41] }, type := 4, pos := "law.go:168", after := #[{ on := 8, ground := Ground.data }, { on := 9, ground := Ground.data }, { on := 15, ground := Ground.data }, { on := 7, ground := Ground.chain }, { on := 7, ground := Ground.guard }], guard := some (7, false) }) rfl (fun K hK => ?_) AllReadyH.nil
                        go_simp
                        with_reducible refine (HFE.out _ hHeld).mono ?_
                        rintro en wn ⟨rfl, hB⟩
                        have hS2 := hHeld.trans (hB.mono hHeld.size)
                        refine hK.out _ _ (hS2) (fun hHeld2 => ?_)
                        clear hK K hHeld
                        have hHeld := hHeld2
                        clear hHeld2
                        try simp only [Act.put, List.setIfInBounds_toArray, List.set_cons_zero, List.set_cons_succ]
                        clear hB hS2 wd
                        generalize wn = wd at *
                        refine wpAnyH_take (i := 17) (oi := { dst := some 94, op := Op.unOp UnOp.not 4 (Operand.tmp 93), type := 4, pos := "law.go:168", after := #[{ on := 16, ground := Ground.data }, { on := 7, ground := Ground.guard }], guard := some (7, false) }) (v := .bool true) rfl (by kernel_rfl) (by kernel_rfl) (by kernel_rfl) (fun _ _ _ h => h) (Or.inl ⟨by rfl, fun w hSw => by go_simp⟩) (by assumption) ?_
                        try simp only [Act.put, List.setIfInBounds_toArray, List.set_cons_zero, List.set_cons_succ]
                        refine wpAnyH_take (i := 18) (oi := { dst := some 95, op := Op.pick (Operand.tmp 84) (Operand.const (Value.bool true)) (Operand.tmp 94), type := 4, pos := "law.go:168", after := #[{ on := 7, ground := Ground.data }, { on := 17, ground := Ground.data }], guard := none }) (v := .bool true) rfl (by kernel_rfl) (by kernel_rfl) (by kernel_rfl) (fun _ _ _ h => h) (Or.inl ⟨by rfl, fun w hSw => by go_simp⟩) (by assumption) ?_
                        try simp only [Act.put, List.setIfInBounds_toArray, List.set_cons_zero, List.set_cons_succ]
                        refine wpAnyH_done (by kernel_rfl) ?_ _
                        try unfold NoPanic
                        have HF := Lib.hid (HW10.out.step hHeld)
                        clear hHeld
                        go_wp2
                        go_roundw
                        case rel => exact ⟨b + 1, by omega, x, r, by rw [HHZ.out], by go_num, HNX.out, HF.out⟩
                        case measure => simp [intOf]; omega
                      · rw [hfz] at HFE HNO HYES
                        clear hfz
                        refine wp_region_noPanic ?_
                        refine wp_region_held_drew (S := fun y : World => Below w10.heap.size w10 y) (by kernel_rfl) ((Below.refl _ _).drew) (fun hHeld => ?_)
                        generalize w10.drew = wd at *
                        refine wpAnyH_take (i := 0) (oi := { dst := some 77, op := Op.move (Operand.tmp 16), type := 3, pos := "law.go:168", after := #[], guard := none }) (v := .int .i64 (fi : Int)) rfl (by kernel_rfl) (by kernel_rfl) (by kernel_rfl) (fun _ _ _ h => h) (Or.inl ⟨by rfl, fun w hSw => by go_simp⟩) (by assumption) ?_
                        try simp only [Act.put, List.setIfInBounds_toArray, List.set_cons_zero, List.set_cons_succ]
                        refine wpAnyH_take (i := 1) (oi := { dst := some 78, op := Op.binOp BinOp.lss 3 (Operand.tmp 77) (Operand.const (Value.int IntKind.i64 0)) 3, type := 4, pos := "law.go:168", after := #[{ on := 0, ground := Ground.data }], guard := none }) (v := .bool false) rfl (by kernel_rfl) (by kernel_rfl) (by kernel_rfl) (fun _ _ _ h => h) (Or.inl ⟨by rfl, fun w hSw => by go_simp⟩) (by assumption) ?_
                        try simp only [Act.put, List.setIfInBounds_toArray, List.set_cons_zero, List.set_cons_succ]
                        refine wpAnyH_take (i := 2) (oi := { dst := some 79, op := Op.move (Operand.tmp 78), type := 4, pos := "law.go:168", after := #[{ on := 1, ground := Ground.data }], guard := none }) (v := .bool false) rfl (by kernel_rfl) (by kernel_rfl) (by kernel_rfl) (fun _ _ _ h => h) (Or.inl ⟨by rfl, fun w hSw => by go_simp⟩) (by assumption) ?_
                        try simp only [Act.put, List.setIfInBounds_toArray, List.set_cons_zero, List.set_cons_succ]
                        refine wpAnyH_take (i := 3) (oi := { dst := some 80, op := Op.move (Operand.tmp 15), type := 3, pos := "law.go:168", after := #[{ on := 2, ground := Ground.guard }], guard := some (2, false) }) (v := .int .i64 (b : Int)) rfl (by kernel_rfl) (by kernel_rfl) (by kernel_rfl) (fun _ _ _ h => h) (Or.inl ⟨by rfl, fun w hSw => by go_simp⟩) (by assumption) ?_
                        try simp only [Act.put, List.setIfInBounds_toArray, List.set_cons_zero, List.set_cons_succ]
                        refine wpAnyH_ready (rs := [4]) (by kernel_rfl) (by simp) ?_
                        refine AllReadyH.cons (o := { dst := some 81, op := Op.call { callee := Callee.value (Operand.func 19), args := #[Operand.tmp 80], argTypes := #[3] }, type := 32, pos := "law.go:168", after := #[{ on := 3, ground := Ground.data }, { on := 2, ground := Ground.chain }, { on := 2, ground := Ground.guard }], guard := some (2, false) }) rfl (fun K hK => ?_) AllReadyH.nil
                        go_simp
                        with_reducible refine (HCO.out _).mono ?_
                        rintro en wn ⟨rfl, hB⟩
                        have hS2 := hHeld.trans (hB.mono hHeld.size)
                        refine hK.out _ _ (hS2) (fun hHeld2 => ?_)
                        clear hK K hHeld
                        have hHeld := hHeld2
                        clear hHeld2
                        try simp only [Act.put, List.setIfInBounds_toArray, List.set_cons_zero, List.set_cons_succ]
                        clear hB hS2 wd
                        generalize wn = wd at *
                        refine wpAnyH_take (i := 5) (oi := { dst := some 82, op := Op.binOp BinOp.eql 32 (Operand.tmp 81) (Operand.const (Value.int IntKind.u16 65535)) 32, type := 4, pos := "law.go:168", after := #[{ on := 4, ground := Ground.data }, { on := 2, ground := Ground.guard }], guard := some (2, false) }) (v := .bool false) rfl (by kernel_rfl) (by kernel_rfl) (by kernel_rfl) (fun _ _ _ h => h) (Or.inl ⟨by rfl, fun w hSw => by go_simp⟩) (by assumption) ?_
                        try simp only [Act.put, List.setIfInBounds_toArray, List.set_cons_zero, List.set_cons_succ]
                        refine wpAnyH_take (i := 6) (oi := { dst := some 83, op := Op.pick (Operand.tmp 79) (Operand.const (Value.bool true)) (Operand.tmp 82), type := 4, pos := "law.go:168", after := #[{ on := 2, ground := Ground.data }, { on := 5, ground := Ground.data }], guard := none }) (v := .bool false) rfl (by kernel_rfl) (by kernel_rfl) (by kernel_rfl) (fun _ _ _ h => h) (Or.inl ⟨by rfl, fun w hSw => by go_simp⟩) (by assumption) ?_
                        try simp only [Act.put, List.setIfInBounds_toArray, List.set_cons_zero, List.set_cons_succ]
                        refine wpAnyH_take (i := 7) (oi := { dst := some 84, op := Op.move (Operand.tmp 83), type := 4, pos := "law.go:168", after := #[{ on := 6, ground := Ground.data }, { on := 4, ground := Ground.chain }], guard := none }) (v := .bool false) rfl (by kernel_rfl) (by kernel_rfl) (by kernel_rfl) (fun _ _ _ h => h) (Or.inl ⟨by rfl, fun w hSw => by go_simp⟩) (by assumption) ?_
                        try simp only [Act.put, List.setIfInBounds_toArray, List.set_cons_zero, List.set_cons_succ]
                        refine wpAnyH_take (i := 8) (oi := { dst := some 85, op := Op.move (Operand.tmp 8), type := 46, pos := "law.go:168", after := #[{ on := 7, ground := Ground.guard }], guard := some (7, false) }) (v := .pointer (some ⟨qs, 0, none⟩)) rfl (by kernel_rfl) (by kernel_rfl) (by kernel_rfl) (fun _ _ _ h => h) (Or.inl ⟨by rfl, fun w hSw => by go_simp⟩) (by assumption) ?_
                        try simp only [Act.put, List.setIfInBounds_toArray, List.set_cons_zero, List.set_cons_succ]
                        refine wpAnyH_take (i := 9) (oi := { dst := some 86, op := Op.load 39 (Operand.tmp 14), type := 39, pos := "law.go:168", after := #[{ on := 7, ground := Ground.guard }], guard := some (7, false) }) (v := .agg #[.int .u32 (a : Int), .int .u8 (n : Int)]) rfl (by kernel_rfl) (by kernel_rfl) (by kernel_rfl) (fun _ _ _ h => h) (Or.inl ⟨by rfl, fun w hSw => by obtain ⟨p0, p1, -⟩ := row2 (brow hSw HW10.out.p); go_simp⟩) (by assumption) ?_
                        try simp only [Act.put, List.setIfInBounds_toArray, List.set_cons_zero, List.set_cons_succ]
                        refine wpAnyH_take (i := 10) (oi := { dst := some 87, op := Op.fieldAddr 29 (Operand.tmp 6) 0, type := 0, pos := "law.go:168", after := #[{ on := 7, ground := Ground.guard }], guard := some (7, false) }) (v := .pointer (some ⟨g, 0, none⟩)) rfl (by kernel_rfl) (by kernel_rfl) (by kernel_rfl) (fun _ _ _ h => h) (Or.inl ⟨by rfl, fun w hSw => by go_simp⟩) (by assumption) ?_
                        try simp only [Act.put, List.setIfInBounds_toArray, List.set_cons_zero, List.set_cons_succ]
                        refine wpAnyH_take (i := 11) (oi := { dst := some 88, op := Op.load 26 (Operand.tmp 87), type := 26, pos := "law.go:168", after := #[{ on := 10, ground := Ground.data }, { on := 7, ground := Ground.guard }], guard := some (7, false) }) (v := .slice (some ⟨lb, lo2, none⟩) l.length c) rfl (by kernel_rfl) (by kernel_rfl) (by kernel_rfl) (fun _ _ _ h => h) (Or.inl ⟨by rfl, fun w hSw => by obtain ⟨p0, p1, -⟩ := row2 (brow hSw HT.out); go_simp⟩) (by assumption) ?_
                        try simp only [Act.put, List.setIfInBounds_toArray, List.set_cons_zero, List.set_cons_succ]
                        refine wpAnyH_take (i := 12) (oi := { dst := some 89, op := Op.move (Operand.tmp 16), type := 3, pos := "law.go:168", after := #[{ on := 7, ground := Ground.guard }], guard := some (7, false) }) (v := .int .i64 (fi : Int)) rfl (by kernel_rfl) (by kernel_rfl) (by kernel_rfl) (fun _ _ _ h => h) (Or.inl ⟨by rfl, fun w hSw => by go_simp⟩) (by assumption) ?_
                        try simp only [Act.put, List.setIfInBounds_toArray, List.set_cons_zero, List.set_cons_succ]
                        refine wpAnyH_take (i := 13) (oi := { dst := some 90, op := Op.indexAddr 26 (Operand.tmp 88) (Operand.tmp 89), type := 0, pos := "law.go:168", after := #[{ on := 11, ground := Ground.data }, { on := 12, ground := Ground.data }, { on := 7, ground := Ground.guard }], guard := some (7, false) }) (v := .pointer (some ⟨lb, lo2 + fi * 7, none⟩)) rfl (by kernel_rfl) (by kernel_rfl) (by kernel_rfl) (fun _ _ _ h => h) (Or.inl ⟨by rfl, fun w hSw => by go_simp⟩) (by assumption) ?_
                        try simp only [Act.put, List.setIfInBounds_toArray, List.set_cons_zero, List.set_cons_succ]
                        refine wpAnyH_take (i := 14) (oi := { dst := some 91, op := Op.fieldAddr 43 (Operand.tmp 90) 3, type := 0, pos := "law.go:168", after := #[{ on := 13, ground := Ground.data }, { on := 7, ground := Ground.guard }], guard := some (7, false) }) (v := .pointer (some ⟨lb, lo2 + fi * 7 + 4, none⟩)) rfl (by kernel_rfl) (by kernel_rfl) (by kernel_rfl) (fun _ _ _ h => h) (Or.inl ⟨by rfl, fun w hSw => by go_simp⟩) (by assumption) ?_
                        try simp only [Act.put, List.setIfInBounds_toArray, List.set_cons_zero, List.set_cons_succ]
                        refine wpAnyH_take (i := 15) (oi := { dst := some 92, op := Op.load 41 (Operand.tmp 91), type := 41, pos := "law.go:168", after := #[{ on := 14, ground := Ground.data }, { on := 7, ground := Ground.guard }], guard := some (7, false) }) (v := .agg #[.int .u16 (e.s : Int), .int .u16 (e.m : Int)]) rfl (by kernel_rfl) (by kernel_rfl) (by kernel_rfl) (fun _ _ _ h => h) (Or.inl ⟨by rfl, fun w hSw => by obtain ⟨k0, k1, k2, k3, k4, k5, k6⟩ := HEL.out.2.keep (hSw.block lb HEL.out.1); go_simp⟩) (by assumption) ?_
                        try simp only [Act.put, List.setIfInBounds_toArray, List.set_cons_zero, List.set_cons_succ]
                        refine wpAnyH_ready (rs := [16]) (by kernel_rfl) (by simp) ?_
                        refine AllReadyH.cons (o := { dst := some 93, op := Op.call { callee := Callee.value (Operand.func 20), args := #[Operand.tmp 85, Operand.tmp 86, Operand.tmp 92], argTypes := #[46, 39, 41] }, type := 4, pos := "law.go:168", after := #[{ on := 8, ground := Ground.data }, { on := 9, ground := Ground.data }, { on := 15, ground := Ground.data }, { on := 7, ground := Ground.chain }, { on := 7, ground := Ground.guard }], guard := some (7, false) }) rfl (fun K hK => ?_) AllReadyH.nil
                        go_simp
                        with_reducible refine (HFE.out _ hHeld).mono ?_
                        rintro en wn ⟨rfl, hB⟩
                        have hS2 := hHeld.trans (hB.mono hHeld.size)
                        refine hK.out _ _ (hS2) (fun hHeld2 => ?_)
                        clear hK K hHeld
                        have hHeld := hHeld2
                        clear hHeld2
                        try simp only [Act.put, List.setIfInBounds_toArray, List.set_cons_zero, List.set_cons_succ]
                        clear hB hS2 wd
                        generalize wn = wd at *
                        refine wpAnyH_take (i := 17) (oi := { dst := some 94, op := Op.unOp UnOp.not 4 (Operand.tmp 93), type := 4, pos := "law.go:168", after := #[{ on := 16, ground := Ground.data }, { on := 7, ground := Ground.guard }], guard := some (7, false) }) (v := .bool false) rfl (by kernel_rfl) (by kernel_rfl) (by kernel_rfl) (fun _ _ _ h => h) (Or.inl ⟨by rfl, fun w hSw => by go_simp⟩) (by assumption) ?_
                        try simp only [Act.put, List.setIfInBounds_toArray, List.set_cons_zero, List.set_cons_succ]
                        refine wpAnyH_take (i := 18) (oi := { dst := some 95, op := Op.pick (Operand.tmp 84) (Operand.const (Value.bool true)) (Operand.tmp 94), type := 4, pos := "law.go:168", after := #[{ on := 7, ground := Ground.data }, { on := 17, ground := Ground.data }], guard := none }) (v := .bool false) rfl (by kernel_rfl) (by kernel_rfl) (by kernel_rfl) (fun _ _ _ h => h) (Or.inl ⟨by rfl, fun w hSw => by go_simp⟩) (by assumption) ?_
                        try simp only [Act.put, List.setIfInBounds_toArray, List.set_cons_zero, List.set_cons_succ]
                        refine wpAnyH_done (by kernel_rfl) ?_ _
                        try unfold NoPanic
                        have HW11 := Lib.hid (HW10.out.step hHeld)
                        clear hHeld HT HEL HFE HW10
                        generalize wd = w11 at *
                        have HT := Lib.hid (HTQ.out _ HW11.out.b)
                        have HEL := Lib.hid (And.intro (Nat.lt_of_lt_of_le HLBQ.out HW11.out.b.size) (HELQ.out _ HW11.out.b))
                        obtain ⟨sm, hsm⟩ : ∃ sm, sm = e.m + cb := ⟨_, rfl⟩
                        have hw1 : IntKind.i64.wrap (e.m : Int) = (e.m : Int) := by rw [IntKind.wrap_i64]; omega
                        have hw2 : IntKind.i64.wrap (cb : Int) = (cb : Int) := by rw [IntKind.wrap_i64]; omega
                        have hw3 : IntKind.i64.wrap ((e.m : Int) + (cb : Int)) = (sm : Int) := by rw [IntKind.wrap_i64]; omega
                        rw [← hsm] at HNO HYES
                        clear hsm
                        go_upto_region 24 with (fail)
                        refine wp_region_noPanic ?_
                        refine wp_region_held_drew (S := fun y : World => Below w11.heap.size w11 y) (by kernel_rfl) ((Below.refl _ _).drew) (fun hHeld => ?_)
                        generalize w11.drew = wd at *
                        refine wpAnyH_take (i := 0) (oi := { dst := some 96, op := Op.fieldAddr 29 (Operand.tmp 6) 0, type := 0, pos := "law.go:171", after := #[], guard := none }) (v := .pointer (some ⟨g, 0, none⟩)) rfl (by kernel_rfl) (by kernel_rfl) (by kernel_rfl) (fun _ _ _ h => h) (Or.inl ⟨by rfl, fun w hSw => by go_simp⟩) (by assumption) ?_
                        try simp only [Act.put, List.setIfInBounds_toArray, List.set_cons_zero, List.set_cons_succ]
                        refine wpAnyH_take (i := 1) (oi := { dst := some 97, op := Op.load 26 (Operand.tmp 96), type := 26, pos := "law.go:171", after := #[{ on := 0, ground := Ground.data }], guard := none }) (v := .slice (some ⟨lb, lo2, none⟩) l.length c) rfl (by kernel_rfl) (by kernel_rfl) (by kernel_rfl) (fun _ _ _ h => h) (Or.inl ⟨by rfl, fun w hSw => by obtain ⟨p0, p1, -⟩ := row2 (brow hSw HT.out); go_simp⟩) (by assumption) ?_
                        try simp only [Act.put, List.setIfInBounds_toArray, List.set_cons_zero, List.set_cons_succ]
                        refine wpAnyH_take (i := 2) (oi := { dst := some 98, op := Op.move (Operand.tmp 16), type := 3, pos := "law.go:171", after := #[], guard := none }) (v := .int .i64 (fi : Int)) rfl (by kernel_rfl) (by kernel_rfl) (by kernel_rfl) (fun _ _ _ h => h) (Or.inl ⟨by rfl, fun w hSw => by go_simp⟩) (by assumption) ?_
                        try simp only [Act.put, List.setIfInBounds_toArray, List.set_cons_zero, List.set_cons_succ]
                        refine wpAnyH_take (i := 3) (oi := { dst := some 99, op := Op.indexAddr 26 (Operand.tmp 97) (Operand.tmp 98), type := 0, pos := "law.go:171", after := #[{ on := 1, ground := Ground.data }, { on := 2, ground := Ground.data }], guard := none }) (v := .pointer (some ⟨lb, lo2 + fi * 7, none⟩)) rfl (by kernel_rfl) (by kernel_rfl) (by kernel_rfl) (fun _ _ _ h => h) (Or.inl ⟨by rfl, fun w hSw => by go_simp⟩) (by assumption) ?_
                        try simp only [Act.put, List.setIfInBounds_toArray, List.set_cons_zero, List.set_cons_succ]
                        refine wpAnyH_take (i := 4) (oi := { dst := some 100, op := Op.fieldAddr 43 (Operand.tmp 99) 3, type := 0, pos := "law.go:171", after := #[{ on := 3, ground := Ground.data }], guard := none }) (v := .pointer (some ⟨lb, lo2 + fi * 7 + 4, none⟩)) rfl (by kernel_rfl) (by kernel_rfl) (by kernel_rfl) (fun _ _ _ h => h) (Or.inl ⟨by rfl, fun w hSw => by go_simp⟩) (by assumption) ?_
                        try simp only [Act.put, List.setIfInBounds_toArray, List.set_cons_zero, List.set_cons_succ]
                        refine wpAnyH_take (i := 5) (oi := { dst := some 101, op := Op.fieldAddr 41 (Operand.tmp 100) 1, type := 0, pos := "law.go:171", after := #[{ on := 4, ground := Ground.data }], guard := none }) (v := .pointer (some ⟨lb, lo2 + fi * 7 + 4 + 1, none⟩)) rfl (by kernel_rfl) (by kernel_rfl) (by kernel_rfl) (fun _ _ _ h => h) (Or.inl ⟨by rfl, fun w hSw => by go_simp⟩) (by assumption) ?_
                        try simp only [Act.put, List.setIfInBounds_toArray, List.set_cons_zero, List.set_cons_succ]
                        refine wpAnyH_take (i := 6) (oi := { dst := some 102, op := Op.load 32 (Operand.tmp 101), type := 32, pos := "law.go:171", after := #[{ on := 5, ground := Ground.data }], guard := none }) (v := .int .u16 (e.m : Int)) rfl (by kernel_rfl) (by kernel_rfl) (by kernel_rfl) (fun _ _ _ h => h) (Or.inl ⟨by rfl, fun w hSw => by obtain ⟨k0, k1, k2, k3, k4, k5, k6⟩ := HEL.out.2.keep (hSw.block lb HEL.out.1); go_simp⟩) (by assumption) ?_
                        try simp only [Act.put, List.setIfInBounds_toArray, List.set_cons_zero, List.set_cons_succ]
                        refine wpAnyH_take (i := 7) (oi := { dst := some 103, op := Op.convert 32 3 (Operand.tmp 102), type := 3, pos := "law.go:171", after := #[{ on := 6, ground := Ground.data }], guard := none }) (v := .int .i64 (e.m : Int)) rfl (by kernel_rfl) (by kernel_rfl) (by kernel_rfl) (fun _ _ _ h => h) (Or.inl ⟨by rfl, fun w hSw => by go_simp⟩) (by assumption) ?_
                        try simp only [Act.put, List.setIfInBounds_toArray, List.set_cons_zero, List.set_cons_succ]
                        refine wpAnyH_take (i := 8) (oi := { dst := some 104, op := Op.move (Operand.tmp 15), type := 3, pos := "law.go:171", after := #[], guard := none }) (v := .int .i64 (b : Int)) rfl (by kernel_rfl) (by kernel_rfl) (by kernel_rfl) (fun _ _ _ h => h) (Or.inl ⟨by rfl, fun w hSw => by go_simp⟩) (by assumption) ?_
                        try simp only [Act.put, List.setIfInBounds_toArray, List.set_cons_zero, List.set_cons_succ]
                        refine wpAnyH_ready (rs := [9]) (by kernel_rfl) (by simp) ?_
                        refine AllReadyH.cons (o := { dst := some 105, op := Op.call { callee := Callee.value (Operand.func 19), args := #[Operand.tmp 104], argTypes := #[3] }, type := 32, pos := "law.go:171", after := #[{ on := 8, ground := Ground.data }], guard := none }) rfl (fun K hK => ?_) AllReadyH.nil
                        go_simp
                        with_reducible refine (HCO.out _).mono ?_
                        rintro en wn ⟨rfl, hB⟩
                        have hS2 := hHeld.trans (hB.mono hHeld.size)
                        refine hK.out _ _ (hS2) (fun hHeld2 => ?_)
                        clear hK K hHeld
                        have hHeld := hHeld2
                        clear hHeld2
                        try simp only [Act.put, List.setIfInBounds_toArray, List.set_cons_zero, List.set_cons_succ]
                        clear hB hS2 wd
                        generalize wn = wd at *
                        refine wpAnyH_take (i := 10) (oi := { dst := some 106, op := Op.convert 32 3 (Operand.tmp 105), type := 3, pos := "law.go:171", after := #[{ on := 9, ground := Ground.data }], guard := none }) (v := .int .i64 (cb : Int)) rfl (by kernel_rfl) (by kernel_rfl) (by kernel_rfl) (fun _ _ _ h => h) (Or.inl ⟨by rfl, fun w hSw => by go_simp⟩) (by assumption) ?_
                        try simp only [Act.put, List.setIfInBounds_toArray, List.set_cons_zero, List.set_cons_succ]
                        refine wpAnyH_take (i := 11) (oi := { dst := some 107, op := Op.binOp BinOp.add 3 (Operand.tmp 103) (Operand.tmp 106) 3, type := 3, pos := "law.go:171", after := #[{ on := 7, ground := Ground.data }, { on := 10, ground := Ground.data }], guard := none }) (v := .int .i64 (sm : Int)) rfl (by kernel_rfl) (by kernel_rfl) (by kernel_rfl) (fun _ _ _ h => h) (Or.inl ⟨by rfl, fun w hSw => by go_simp⟩) (by assumption) ?_
                        try simp only [Act.put, List.setIfInBounds_toArray, List.set_cons_zero, List.set_cons_succ]
                        refine wpAnyH_take (i := 12) (oi := { dst := some 17, op := Op.assign (Operand.tmp 107), type := 3, pos := "law.go:171", after := #[{ on := 11, ground := Ground.data }, { on := 9, ground := Ground.chain }, { on := 0, ground := Ground.phase }, { on := 1, ground := Ground.phase }, { on := 2, ground := Ground.phase }, { on := 3, ground := Ground.phase }, { on := 4, ground := Ground.phase }, { on := 5, ground := Ground.phase }, { on := 6, ground := Ground.phase }, { on := 7, ground := Ground.phase }, { on := 8, ground := Ground.phase }, { on := 9, ground := Ground.phase }, { on := 10, ground := Ground.phase }, { on := 11, ground := Ground.phase }], guard := none }) (v := .int .i64 (sm : Int)) rfl (by kernel_rfl) (by kernel_rfl) (by kernel_rfl) (fun _ _ _ h => h) (Or.inl ⟨by rfl, fun w hSw => by go_simp⟩) (by assumption) ?_
                        try simp only [Act.put, List.setIfInBounds_toArray, List.set_cons_zero, List.set_cons_succ]
                        refine wpAnyH_done (by kernel_rfl) ?_ _
                        try unfold NoPanic
                        have HW12 := Lib.hid (HW11.out.step hHeld)
                        clear hHeld HT HEL HW11 hw1 hw2 hw3
                        generalize wd = w12 at *
                        obtain ⟨z0, z1, z2, z3, z4, zf⟩ := row5' HW12.out.x
                        by_cases hsx : sm < x
                        · have HNX := Lib.hid (HYES.out hsx (by trivial))
                          clear HYES HNO
                          have hs65 : (sm : Int) < 65535 := by have := HXM.out; omega
                          have HS65N := Lib.hid (show sm < 65535 by omega)
                          have hwu : IntKind.u16.wrap (sm : Int) = (sm : Int) := by rw [IntKind.wrap_u16]; omega
                          have hd1 : decide ((sm : Int) < 65535) = true := decide_eq_true hs65
                          have HSX := Lib.hid hsx
                          clear hs65 hsx
                          cases hz
                          · go_upto_region 26 with (fail)
                            clear z0 z1 z2 z3 z4 zf
                            refine wp_region_noPanic ?_
                            refine wp_region_held_drew (S := fun y : World => ∃ r9 : Ro, SelW w6 y wb pb a n r9) (by kernel_rfl) ⟨_, HW12.out.step ((Below.refl _ _).drew)⟩ (fun hHeld => ?_)
                            generalize w12.drew = wd at *
                            refine wpAnyH_take (i := 0) (oi := { dst := some 121, op := Op.load 39 (Operand.tmp 14), type := 39, pos := "law.go:173", after := #[], guard := none }) (v := .agg #[.int .u32 (a : Int), .int .u8 (n : Int)]) rfl (by kernel_rfl) (by kernel_rfl) (by kernel_rfl) (fun _ _ _ h => h) (Or.inl ⟨by rfl, fun w hSw => by obtain ⟨r9, hW9⟩ := hSw; obtain ⟨p0, p1, -⟩ := row2 hW9.p; go_simp⟩) (by assumption) ?_
                            try simp only [Act.put, List.setIfInBounds_toArray, List.set_cons_zero, List.set_cons_succ]
                            refine wpAnyH_take (i := 1) (oi := { dst := some 122, op := Op.move (Operand.tmp 15), type := 3, pos := "law.go:173", after := #[], guard := none }) (v := .int .i64 (b : Int)) rfl (by kernel_rfl) (by kernel_rfl) (by kernel_rfl) (fun _ _ _ h => h) (Or.inl ⟨by rfl, fun w hSw => by go_simp⟩) (by assumption) ?_
                            try simp only [Act.put, List.setIfInBounds_toArray, List.set_cons_zero, List.set_cons_succ]
                            refine wpAnyH_take (i := 2) (oi := { dst := some 123, op := Op.move (Operand.tmp 17), type := 3, pos := "law.go:173", after := #[], guard := none }) (v := .int .i64 (sm : Int)) rfl (by kernel_rfl) (by kernel_rfl) (by kernel_rfl) (fun _ _ _ h => h) (Or.inl ⟨by rfl, fun w hSw => by go_simp⟩) (by assumption) ?_
                            try simp only [Act.put, List.setIfInBounds_toArray, List.set_cons_zero, List.set_cons_succ]
                            refine wpAnyH_take (i := 3) (oi := { dst := some 124, op := Op.convert 3 32 (Operand.tmp 123), type := 32, pos := "law.go:173", after := #[{ on := 2, ground := Ground.data }], guard := none }) (v := .int .u16 (sm : Int)) rfl (by kernel_rfl) (by kernel_rfl) (by kernel_rfl) (fun _ _ _ h => h) (Or.inl ⟨by rfl, fun w hSw => by go_simp⟩) (by assumption) ?_
                            try simp only [Act.put, List.setIfInBounds_toArray, List.set_cons_zero, List.set_cons_succ]
                            refine wpAnyH_take (i := 4) (oi := { dst := some 125, op := Op.fieldAddr 29 (Operand.tmp 6) 0, type := 0, pos := "law.go:173", after := #[], guard := none }) (v := .pointer (some ⟨g, 0, none⟩)) rfl (by kernel_rfl) (by kernel_rfl) (by kernel_rfl) (fun _ _ _ h => h) (Or.inl ⟨by rfl, fun w hSw => by go_simp⟩) (by assumption) ?_
                            try simp only [Act.put, List.setIfInBounds_toArray, List.set_cons_zero, List.set_cons_succ]
                            refine wpAnyH_take (i := 5) (oi := { dst := some 126, op := Op.load 26 (Operand.tmp 125), type := 26, pos := "law.go:173", after := #[{ on := 4, ground := Ground.data }], guard := none }) (v := .slice (some ⟨lb, lo2, none⟩) l.length c) rfl (by kernel_rfl) (by kernel_rfl) (by kernel_rfl) (fun _ _ _ h => h) (Or.inl ⟨by rfl, fun w hSw => by obtain ⟨r9, hW9⟩ := hSw; obtain ⟨p0, p1, -⟩ := row2 (HTQ.out _ hW9.b); go_simp⟩) (by assumption) ?_
                            try simp only [Act.put, List.setIfInBounds_toArray, List.set_cons_zero, List.set_cons_succ]
                            refine wpAnyH_take (i := 6) (oi := { dst := some 127, op := Op.move (Operand.tmp 16), type := 3, pos := "law.go:173", after := #[], guard := none }) (v := .int .i64 (fi : Int)) rfl (by kernel_rfl) (by kernel_rfl) (by kernel_rfl) (fun _ _ _ h => h) (Or.inl ⟨by rfl, fun w hSw => by go_simp⟩) (by assumption) ?_
                            try simp only [Act.put, List.setIfInBounds_toArray, List.set_cons_zero, List.set_cons_succ]
                            refine wpAnyH_take (i := 7) (oi := { dst := some 128, op := Op.indexAddr 26 (Operand.tmp 126) (Operand.tmp 127), type := 0, pos := "law.go:173", after := #[{ on := 5, ground := Ground.data }, { on := 6, ground := Ground.data }], guard := none }) (v := .pointer (some ⟨lb, lo2 + fi * 7, none⟩)) rfl (by kernel_rfl) (by kernel_rfl) (by kernel_rfl) (fun _ _ _ h => h) (Or.inl ⟨by rfl, fun w hSw => by go_simp⟩) (by assumption) ?_
                            try simp only [Act.put, List.setIfInBounds_toArray, List.set_cons_zero, List.set_cons_succ]
                            refine wpAnyH_take (i := 8) (oi := { dst := some 129, op := Op.fieldAddr 43 (Operand.tmp 128) 3, type := 0, pos := "law.go:173", after := #[{ on := 7, ground := Ground.data }], guard := none }) (v := .pointer (some ⟨lb, lo2 + fi * 7 + 4, none⟩)) rfl (by kernel_rfl) (by kernel_rfl) (by kernel_rfl) (fun _ _ _ h => h) (Or.inl ⟨by rfl, fun w hSw => by go_simp⟩) (by assumption) ?_
                            try simp only [Act.put, List.setIfInBounds_toArray, List.set_cons_zero, List.set_cons_succ]
                            refine wpAnyH_take (i := 9) (oi := { dst := some 130, op := Op.fieldAddr 41 (Operand.tmp 129) 0, type := 0, pos := "law.go:173", after := #[{ on := 8, ground := Ground.data }], guard := none }) (v := .pointer (some ⟨lb, lo2 + fi * 7 + 4, none⟩)) rfl (by kernel_rfl) (by kernel_rfl) (by kernel_rfl) (fun _ _ _ h => h) (Or.inl ⟨by rfl, fun w hSw => by go_simp⟩) (by assumption) ?_
                            try simp only [Act.put, List.setIfInBounds_toArray, List.set_cons_zero, List.set_cons_succ]
                            refine wpAnyH_take (i := 10) (oi := { dst := some 131, op := Op.load 32 (Operand.tmp 130), type := 32, pos := "law.go:173", after := #[{ on := 9, ground := Ground.data }], guard := none }) (v := .int .u16 (e.s : Int)) rfl (by kernel_rfl) (by kernel_rfl) (by kernel_rfl) (fun _ _ _ h => h) (Or.inl ⟨by rfl, fun w hSw => by obtain ⟨r9, hW9⟩ := hSw; obtain ⟨k0, k1, k2, k3, k4, k5, k6⟩ := HELQ.out _ hW9.b; go_simp⟩) (by assumption) ?_
                            try simp only [Act.put, List.setIfInBounds_toArray, List.set_cons_zero, List.set_cons_succ]
                            refine wpAnyH_take (i := 11) (oi := { dst := some 132, op := Op.build 53 #[(0, Operand.tmp 121), (1, Operand.tmp 122), (2, Operand.tmp 124), (3, Operand.tmp 131)], type := 53, pos := "law.go:173", after := #[{ on := 0, ground := Ground.data }, { on := 1, ground := Ground.data }, { on := 3, ground := Ground.data }, { on := 10, ground := Ground.data }], guard := none }) (v := .agg #[.int .u32 (a : Int), .int .u8 (n : Int), .int .i64 (b : Int), .int .u16 (sm : Int), .int .u16 (e.s : Int)]) rfl (by kernel_rfl) (by kernel_rfl) (by kernel_rfl) (fun _ _ _ h => h) (Or.inl ⟨by rfl, fun w hSw => by go_simp⟩) (by assumption) ?_
                            try simp only [Act.put, List.setIfInBounds_toArray, List.set_cons_zero, List.set_cons_succ]
                            refine wpAnyH_ready (rs := [12]) (by kernel_rfl) (by simp) ?_
                            refine (AllReadyH.cons (o := { dst := none, op := Op.store 53 (Operand.tmp 12) (Operand.tmp 132), type := 0, pos := "law.go:173", after := #[{ on := 11, ground := Ground.data }, { on := 0, ground := Ground.phase }, { on := 1, ground := Ground.phase }, { on := 2, ground := Ground.phase }, { on := 3, ground := Ground.phase }, { on := 4, ground := Ground.phase }, { on := 5, ground := Ground.phase }, { on := 6, ground := Ground.phase }, { on := 7, ground := Ground.phase }, { on := 8, ground := Ground.phase }, { on := 9, ground := Ground.phase }, { on := 10, ground := Ground.phase }, { on := 11, ground := Ground.phase }], guard := none }) rfl (fun K hK => ?_) AllReadyH.nil)
                            obtain ⟨r9, hW9⟩ := hHeld
                            obtain ⟨z0, z1, z2, z3, z4, zf⟩ := row5' hW9.x
                            have hwl := (Array.getElem?_eq_some_iff.1 hW9.x).1
                            have HD := Lib.hid (hW9.set ⟨a, n, b, sm, e.s⟩)
                            have hHeld := hW9
                            go_simp
                            have hS2 : ∃ r9 : Ro, SelW w6 (((((wd.setCell ⟨wb, 0, none⟩ (.int .u32 (a : Int))).setCell ⟨wb, 1, none⟩ (.int .u8 (n : Int))).setCell ⟨wb, 2, none⟩ (.int .i64 (b : Int))).setCell ⟨wb, 3, none⟩ (.int .u16 (sm : Int))).setCell ⟨wb, 4, none⟩ (.int .u16 (e.s : Int))) wb pb a n r9 := ⟨_, HD.out⟩
                            clear z0 z1 z2 z3 z4 zf hwl hW9
                            generalize ((((wd.setCell _ _).setCell _ _).setCell _ _).setCell _ _).setCell _ _ = wk at *
                            refine hK.out _ _ hS2 (fun hHeld2 => ?_)
                            clear hK K hHeld hS2
                            have hHeld := hHeld2
                            clear hHeld2
                            try simp only [Act.put, List.setIfInBounds_toArray, List.set_cons_zero, List.set_cons_succ]
                            refine wpAnyH_done (by kernel_rfl) ?_ _
                            try unfold NoPanic
                            clear hHeld HW12
                            go_wp2
                            go_roundw
                            case rel => exact ⟨b + 1, by omega, sm, _, by rw [decide_eq_true HS65N.out], by go_num, HNX.out, HD.out⟩
                            case measure => simp [intOf]; omega
                          · have hwr : IntKind.i64.wrap (r.m : Int) = (r.m : Int) := by
                              rw [IntKind.wrap_i64]
                              rcases HXM.out with h | h
                              · have := of_decide_eq_true HHZ.out.symm; omega
                              · omega
                            have hd2 : sm < r.m := (by
                              have := HSX.out
                              rcases HXM.out with h | h
                              · have := of_decide_eq_true HHZ.out.symm; omega
                              · omega)
                            go_upto_region 26 with (fail)
                            clear z0 z1 z2 z3 z4 zf
                            refine wp_region_noPanic ?_
                            refine wp_region_held_drew (S := fun y : World => ∃ r9 : Ro, SelW w6 y wb pb a n r9) (by kernel_rfl) ⟨_, HW12.out.step ((Below.refl _ _).drew)⟩ (fun hHeld => ?_)
                            generalize w12.drew = wd at *
                            refine wpAnyH_take (i := 0) (oi := { dst := some 121, op := Op.load 39 (Operand.tmp 14), type := 39, pos := "law.go:173", after := #[], guard := none }) (v := .agg #[.int .u32 (a : Int), .int .u8 (n : Int)]) rfl (by kernel_rfl) (by kernel_rfl) (by kernel_rfl) (fun _ _ _ h => h) (Or.inl ⟨by rfl, fun w hSw => by obtain ⟨r9, hW9⟩ := hSw; obtain ⟨p0, p1, -⟩ := row2 hW9.p; go_simp⟩) (by assumption) ?_
                            try simp only [Act.put, List.setIfInBounds_toArray, List.set_cons_zero, List.set_cons_succ]
                            refine wpAnyH_take (i := 1) (oi := { dst := some 122, op := Op.move (Operand.tmp 15), type := 3, pos := "law.go:173", after := #[], guard := none }) (v := .int .i64 (b : Int)) rfl (by kernel_rfl) (by kernel_rfl) (by kernel_rfl) (fun _ _ _ h => h) (Or.inl ⟨by rfl, fun w hSw => by go_simp⟩) (by assumption) ?_
                            try simp only [Act.put, List.setIfInBounds_toArray, List.set_cons_zero, List.set_cons_succ]
                            refine wpAnyH_take (i := 2) (oi := { dst := some 123, op := Op.move (Operand.tmp 17), type := 3, pos := "law.go:173", after := #[], guard := none }) (v := .int .i64 (sm : Int)) rfl (by kernel_rfl) (by kernel_rfl) (by kernel_rfl) (fun _ _ _ h => h) (Or.inl ⟨by rfl, fun w hSw => by go_simp⟩) (by assumption) ?_
                            try simp only [Act.put, List.setIfInBounds_toArray, List.set_cons_zero, List.set_cons_succ]
                            refine wpAnyH_take (i := 3) (oi := { dst := some 124, op := Op.convert 3 32 (Operand.tmp 123), type := 32, pos := "law.go:173", after := #[{ on := 2, ground := Ground.data }], guard := none }) (v := .int .u16 (sm : Int)) rfl (by kernel_rfl) (by kernel_rfl) (by kernel_rfl) (fun _ _ _ h => h) (Or.inl ⟨by rfl, fun w hSw => by go_simp⟩) (by assumption) ?_
                            try simp only [Act.put, List.setIfInBounds_toArray, List.set_cons_zero, List.set_cons_succ]
                            refine wpAnyH_take (i := 4) (oi := { dst := some 125, op := Op.fieldAddr 29 (Operand.tmp 6) 0, type := 0, pos := "law.go:173", after := #[], guard := none }) (v := .pointer (some ⟨g, 0, none⟩)) rfl (by kernel_rfl) (by kernel_rfl) (by kernel_rfl) (fun _ _ _ h => h) (Or.inl ⟨by rfl, fun w hSw => by go_simp⟩) (by assumption) ?_
                            try simp only [Act.put, List.setIfInBounds_toArray, List.set_cons_zero, List.set_cons_succ]
                            refine wpAnyH_take (i := 5) (oi := { dst := some 126, op := Op.load 26 (Operand.tmp 125), type := 26, pos := "law.go:173", after := #[{ on := 4, ground := Ground.data }], guard := none }) (v := .slice (some ⟨lb, lo2, none⟩) l.length c) rfl (by kernel_rfl) (by kernel_rfl) (by kernel_rfl) (fun _ _ _ h => h) (Or.inl ⟨by rfl, fun w hSw => by obtain ⟨r9, hW9⟩ := hSw; obtain ⟨p0, p1, -⟩ := row2 (HTQ.out _ hW9.b); go_simp⟩) (by assumption) ?_
                            try simp only [Act.put, List.setIfInBounds_toArray, List.set_cons_zero, List.set_cons_succ]
                            refine wpAnyH_take (i := 6) (oi := { dst := some 127, op := Op.move (Operand.tmp 16), type := 3, pos := "law.go:173", after := #[], guard := none }) (v := .int .i64 (fi : Int)) rfl (by kernel_rfl) (by kernel_rfl) (by kernel_rfl) (fun _ _ _ h => h) (Or.inl ⟨by rfl, fun w hSw => by go_simp⟩) (by assumption) ?_
                            try simp only [Act.put, List.setIfInBounds_toArray, List.set_cons_zero, List.set_cons_succ]
                            refine wpAnyH_take (i := 7) (oi := { dst := some 128, op := Op.indexAddr 26 (Operand.tmp 126) (Operand.tmp 127), type := 0, pos := "law.go:173", after := #[{ on := 5, ground := Ground.data }, { on := 6, ground := Ground.data }], guard := none }) (v := .pointer (some ⟨lb, lo2 + fi * 7, none⟩)) rfl (by kernel_rfl) (by kernel_rfl) (by kernel_rfl) (fun _ _ _ h => h) (Or.inl ⟨by rfl, fun w hSw => by go_simp⟩) (by assumption) ?_
                            try simp only [Act.put, List.setIfInBounds_toArray, List.set_cons_zero, List.set_cons_succ]
                            refine wpAnyH_take (i := 8) (oi := { dst := some 129, op := Op.fieldAddr 43 (Operand.tmp 128) 3, type := 0, pos := "law.go:173", after := #[{ on := 7, ground := Ground.data }], guard := none }) (v := .pointer (some ⟨lb, lo2 + fi * 7 + 4, none⟩)) rfl (by kernel_rfl) (by kernel_rfl) (by kernel_rfl) (fun _ _ _ h => h) (Or.inl ⟨by rfl, fun w hSw => by go_simp⟩) (by assumption) ?_
                            try simp only [Act.put, List.setIfInBounds_toArray, List.set_cons_zero, List.set_cons_succ]
                            refine wpAnyH_take (i := 9) (oi := { dst := some 130, op := Op.fieldAddr 41 (Operand.tmp 129) 0, type := 0, pos := "law.go:173", after := #[{ on := 8, ground := Ground.data }], guard := none }) (v := .pointer (some ⟨lb, lo2 + fi * 7 + 4, none⟩)) rfl (by kernel_rfl) (by kernel_rfl) (by kernel_rfl) (fun _ _ _ h => h) (Or.inl ⟨by rfl, fun w hSw => by go_simp⟩) (by assumption) ?_
                            try simp only [Act.put, List.setIfInBounds_toArray, List.set_cons_zero, List.set_cons_succ]
                            refine wpAnyH_take (i := 10) (oi := { dst := some 131, op := Op.load 32 (Operand.tmp 130), type := 32, pos := "law.go:173", after := #[{ on := 9, ground := Ground.data }], guard := none }) (v := .int .u16 (e.s : Int)) rfl (by kernel_rfl) (by kernel_rfl) (by kernel_rfl) (fun _ _ _ h => h) (Or.inl ⟨by rfl, fun w hSw => by obtain ⟨r9, hW9⟩ := hSw; obtain ⟨k0, k1, k2, k3, k4, k5, k6⟩ := HELQ.out _ hW9.b; go_simp⟩) (by assumption) ?_
                            try simp only [Act.put, List.setIfInBounds_toArray, List.set_cons_zero, List.set_cons_succ]
                            refine wpAnyH_take (i := 11) (oi := { dst := some 132, op := Op.build 53 #[(0, Operand.tmp 121), (1, Operand.tmp 122), (2, Operand.tmp 124), (3, Operand.tmp 131)], type := 53, pos := "law.go:173", after := #[{ on := 0, ground := Ground.data }, { on := 1, ground := Ground.data }, { on := 3, ground := Ground.data }, { on := 10, ground := Ground.data }], guard := none }) (v := .agg #[.int .u32 (a : Int), .int .u8 (n : Int), .int .i64 (b : Int), .int .u16 (sm : Int), .int .u16 (e.s : Int)]) rfl (by kernel_rfl) (by kernel_rfl) (by kernel_rfl) (fun _ _ _ h => h) (Or.inl ⟨by rfl, fun w hSw => by go_simp⟩) (by assumption) ?_
                            try simp only [Act.put, List.setIfInBounds_toArray, List.set_cons_zero, List.set_cons_succ]
                            refine wpAnyH_ready (rs := [12]) (by kernel_rfl) (by simp) ?_
                            refine (AllReadyH.cons (o := { dst := none, op := Op.store 53 (Operand.tmp 12) (Operand.tmp 132), type := 0, pos := "law.go:173", after := #[{ on := 11, ground := Ground.data }, { on := 0, ground := Ground.phase }, { on := 1, ground := Ground.phase }, { on := 2, ground := Ground.phase }, { on := 3, ground := Ground.phase }, { on := 4, ground := Ground.phase }, { on := 5, ground := Ground.phase }, { on := 6, ground := Ground.phase }, { on := 7, ground := Ground.phase }, { on := 8, ground := Ground.phase }, { on := 9, ground := Ground.phase }, { on := 10, ground := Ground.phase }, { on := 11, ground := Ground.phase }], guard := none }) rfl (fun K hK => ?_) AllReadyH.nil)
                            obtain ⟨r9, hW9⟩ := hHeld
                            obtain ⟨z0, z1, z2, z3, z4, zf⟩ := row5' hW9.x
                            have hwl := (Array.getElem?_eq_some_iff.1 hW9.x).1
                            have HD := Lib.hid (hW9.set ⟨a, n, b, sm, e.s⟩)
                            have hHeld := hW9
                            go_simp
                            have hS2 : ∃ r9 : Ro, SelW w6 (((((wd.setCell ⟨wb, 0, none⟩ (.int .u32 (a : Int))).setCell ⟨wb, 1, none⟩ (.int .u8 (n : Int))).setCell ⟨wb, 2, none⟩ (.int .i64 (b : Int))).setCell ⟨wb, 3, none⟩ (.int .u16 (sm : Int))).setCell ⟨wb, 4, none⟩ (.int .u16 (e.s : Int))) wb pb a n r9 := ⟨_, HD.out⟩
                            clear z0 z1 z2 z3 z4 zf hwl hW9
                            generalize ((((wd.setCell _ _).setCell _ _).setCell _ _).setCell _ _).setCell _ _ = wk at *
                            refine hK.out _ _ hS2 (fun hHeld2 => ?_)
                            clear hK K hHeld hS2
                            have hHeld := hHeld2
                            clear hHeld2
                            try simp only [Act.put, List.setIfInBounds_toArray, List.set_cons_zero, List.set_cons_succ]
                            refine wpAnyH_done (by kernel_rfl) ?_ _
                            try unfold NoPanic
                            clear hHeld HW12
                            go_wp2
                            go_roundw
                            case rel => exact ⟨b + 1, by omega, sm, _, by rw [decide_eq_true HS65N.out], by go_num, HNX.out, HD.out⟩
                            case measure => simp [intOf]; omega
                        · have HNX := Lib.hid (HNO.out (fun h => hsx h.1))
                          clear HYES HNO
                          have HF := HW12
                          have HSX := Lib.hid hsx
                          clear hsx
                          cases hz
                          · have hd1 : decide ((sm : Int) < 65535) = false := decide_eq_false (by
                              have := HSX.out
                              rcases HXM.out with h | h
                              · omega
                              · have := of_decide_eq_false HHZ.out.symm; omega)
                            go_wp2
                            go_roundw
                            case rel => exact ⟨b + 1, by omega, x, r, by rw [HHZ.out], by go_num, HNX.out, HF.out⟩
                            case measure => simp [intOf]; omega
                          · have hwr : IntKind.i64.wrap (r.m : Int) = (r.m : Int) := by
                              rw [IntKind.wrap_i64]
                              rcases HXM.out with h | h
                              · have := of_decide_eq_true HHZ.out.symm; omega
                              · omega
                            have hd2 : ¬ sm < r.m := (by
                              have := HSX.out
                              rcases HXM.out with h | h
                              · have := of_decide_eq_true HHZ.out.symm; omega
                              · omega)
                            cases hd1 : decide ((sm : Int) < 65535)
                            · skip
                              go_wp2
                              go_roundw
                              case rel => exact ⟨b + 1, by omega, x, r, by rw [HHZ.out], by go_num, HNX.out, HF.out⟩
                              case measure => simp [intOf]; omega
                            · skip
                              go_wp2
                              go_roundw
                              case rel => exact ⟨b + 1, by omega, x, r, by rw [HHZ.out], by go_num, HNX.out, HF.out⟩
                              case measure => simp [intOf]; omega
                  · have HNX : Hid (stB f L a n (b + 1) = (x, r)) := Lib.hid (by rw [stB_miss f hno]; exact HXR.out)
                    have HFI : Hid (∀ W, Below w6.heap.size w6 W → Calls Try.prog 12 #[.agg #[.slice A l.length c, .int .u64 (now : Int)], .agg #[.int .u32 (a : Int), .int .u8 (n : Int)], .int .i64 (b : Int)] W fun en w' => en = .returned (.int .i64 (-1)) ∧ Below W.heap.size W w') := Lib.hid fun W hW => by
                      have := lfind_any W A l.length c now l rfl (by have := HI.out.2.1; omega) (HESL.out W hW) a n b
                      rw [hix] at this
                      exact this
                    clear hix hno
                    obtain ⟨t0, t1, -⟩ := row2 HT5.out
                    obtain ⟨p0, p1, -⟩ := row2 HW.out.p
                    go_upto_region 23 with (first
                      | (go_at_call 12; clear t0 t1 p0 p1; (with_reducible refine (HFI.out _ HW.out.b).mono ?_); rintro en w10 ⟨rfl, B10⟩; have HW10 := Lib.hid (HW.out.step B10); clear B10))
                    clear HT5 HESL HFI HW
                    refine wp_region_noPanic ?_
                    refine wp_region_held_drew (S := fun y : World => Below w10.heap.size w10 y) (by kernel_rfl) ((Below.refl _ _).drew) (fun hHeld => ?_)
                    generalize w10.drew = wd at *
                    refine wpAnyH_take (i := 0) (oi := { dst := some 77, op := Op.move (Operand.tmp 16), type := 3, pos := "law.go:168", after := #[], guard := none }) (v := .int .i64 (-1)) rfl (by kernel_rfl) (by kernel_rfl) (by kernel_rfl) (fun _ _ _ h => h) (Or.inl ⟨by rfl, fun w hSw => by go_simp⟩) (by assumption) ?_
                    try simp only [Act.put, List.setIfInBounds_toArray, List.set_cons_zero, List.set_cons_succ]
                    refine wpAnyH_take (i := 1) (oi := { dst := some 78, op := Op.binOp BinOp.lss 3 (Operand.tmp 77) (Operand.const (Value.int IntKind.i64 0)) 3, type := 4, pos := "law.go:168", after := #[{ on := 0, ground := Ground.data }], guard := none }) (v := .bool true) rfl (by kernel_rfl) (by kernel_rfl) (by kernel_rfl) (fun _ _ _ h => h) (Or.inl ⟨by rfl, fun w hSw => by go_simp⟩) (by assumption) ?_
                    try simp only [Act.put, List.setIfInBounds_toArray, List.set_cons_zero, List.set_cons_succ]
                    refine wpAnyH_take (i := 2) (oi := { dst := some 79, op := Op.move (Operand.tmp 78), type := 4, pos := "law.go:168", after := #[{ on := 1, ground := Ground.data }], guard := none }) (v := .bool true) rfl (by kernel_rfl) (by kernel_rfl) (by kernel_rfl) (fun _ _ _ h => h) (Or.inl ⟨by rfl, fun w hSw => by go_simp⟩) (by assumption) ?_
                    try simp only [Act.put, List.setIfInBounds_toArray, List.set_cons_zero, List.set_cons_succ]
                    refine wpAnyH_take (i := 3) (oi := { dst := some 80, op := Op.move (Operand.tmp 15), type := 3, pos := "law.go:168", after := #[{ on := 2, ground := Ground.guard }], guard := some (2, false) }) (v := undef) rfl (by kernel_rfl) (by kernel_rfl) (by kernel_rfl) (fun _ _ _ h => h) (Or.inr ⟨by rfl, rfl⟩) (by assumption) ?_
                    try simp only [Act.put, List.setIfInBounds_toArray, List.set_cons_zero, List.set_cons_succ]
                    refine wpAnyH_take (i := 4) (oi := { dst := some 81, op := Op.call { callee := Callee.value (Operand.func 19), args := #[Operand.tmp 80], argTypes := #[3] }, type := 32, pos := "law.go:168", after := #[{ on := 3, ground := Ground.data }, { on := 2, ground := Ground.chain }, { on := 2, ground := Ground.guard }], guard := some (2, false) }) (v := undef) rfl (by kernel_rfl) (by kernel_rfl) (by kernel_rfl) (fun _ _ _ h => h) (Or.inr ⟨by rfl, rfl⟩) (by assumption) ?_
                    try simp only [Act.put, List.setIfInBounds_toArray, List.set_cons_zero, List.set_cons_succ]
                    refine wpAnyH_take (i := 5) (oi := { dst := some 82, op := Op.binOp BinOp.eql 32 (Operand.tmp 81) (Operand.const (Value.int IntKind.u16 65535)) 32, type := 4, pos := "law.go:168", after := #[{ on := 4, ground := Ground.data }, { on := 2, ground := Ground.guard }], guard := some (2, false) }) (v := undef) rfl (by kernel_rfl) (by kernel_rfl) (by kernel_rfl) (fun _ _ _ h => h) (Or.inr ⟨by rfl, rfl⟩) (by assumption) ?_
                    try simp only [Act.put, List.setIfInBounds_toArray, List.set_cons_zero, List.set_cons_succ]
                    refine wpAnyH_take (i := 6) (oi := { dst := some 83, op := Op.pick (Operand.tmp 79) (Operand.const (Value.bool true)) (Operand.tmp 82), type := 4, pos := "law.go:168", after := #[{ on := 2, ground := Ground.data }, { on := 5, ground := Ground.data }], guard := none }) (v := .bool true) rfl (by kernel_rfl) (by kernel_rfl) (by kernel_rfl) (fun _ _ _ h => h) (Or.inl ⟨by rfl, fun w hSw => by go_simp⟩) (by assumption) ?_
                    try simp only [Act.put, List.setIfInBounds_toArray, List.set_cons_zero, List.set_cons_succ]
                    refine wpAnyH_take (i := 7) (oi := { dst := some 84, op := Op.move (Operand.tmp 83), type := 4, pos := "law.go:168", after := #[{ on := 6, ground := Ground.data }, { on := 4, ground := Ground.chain }], guard := none }) (v := .bool true) rfl (by kernel_rfl) (by kernel_rfl) (by kernel_rfl) (fun _ _ _ h => h) (Or.inl ⟨by rfl, fun w hSw => by go_simp⟩) (by assumption) ?_
                    try simp only [Act.put, List.setIfInBounds_toArray, List.set_cons_zero, List.set_cons_succ]
                    refine wpAnyH_take (i := 8) (oi := { dst := some 85, op := Op.move (Operand.tmp 8), type := 46, pos := "law.go:168", after := #[{ on := 7, ground := Ground.guard }], guard := some (7, false) }) (v := undef) rfl (by kernel_rfl) (by kernel_rfl) (by kernel_rfl) (fun _ _ _ h => h) (Or.inr ⟨by rfl, rfl⟩) (by assumption) ?_
                    try simp only [Act.put, List.setIfInBounds_toArray, List.set_cons_zero, List.set_cons_succ]
                    refine wpAnyH_take (i := 9) (oi := { dst := some 86, op := Op.load 39 (Operand.tmp 14), type := 39, pos := "law.go:168", after := #[{ on := 7, ground := Ground.guard }], guard := some (7, false) }) (v := undef) rfl (by kernel_rfl) (by kernel_rfl) (by kernel_rfl) (fun _ _ _ h => h) (Or.inr ⟨by rfl, rfl⟩) (by assumption) ?_
                    try simp only [Act.put, List.setIfInBounds_toArray, List.set_cons_zero, List.set_cons_succ]
                    refine wpAnyH_take (i := 10) (oi := { dst := some 87, op := Op.fieldAddr 29 (Operand.tmp 6) 0, type := 0, pos := "law.go:168", after := #[{ on := 7, ground := Ground.guard }], guard := some (7, false) }) (v := undef) rfl (by kernel_rfl) (by kernel_rfl) (by kernel_rfl) (fun _ _ _ h => h) (Or.inr ⟨by rfl, rfl⟩) (by assumption) ?_
                    try simp only [Act.put, List.setIfInBounds_toArray, List.set_cons_zero, List.set_cons_succ]
                    refine wpAnyH_take (i := 11) (oi := { dst := some 88, op := Op.load 26 (Operand.tmp 87), type := 26, pos := "law.go:168", after := #[{ on := 10, ground := Ground.data }, { on := 7, ground := Ground.guard }], guard := some (7, false) }) (v := undef) rfl (by kernel_rfl) (by kernel_rfl) (by kernel_rfl) (fun _ _ _ h => h) (Or.inr ⟨by rfl, rfl⟩) (by assumption) ?_
                    try simp only [Act.put, List.setIfInBounds_toArray, List.set_cons_zero, List.set_cons_succ]
                    refine wpAnyH_take (i := 12) (oi := { dst := some 89, op := Op.move (Operand.tmp 16), type := 3, pos := "law.go:168", after := #[{ on := 7, ground := Ground.guard }], guard := some (7, false) }) (v := undef) rfl (by kernel_rfl) (by kernel_rfl) (by kernel_rfl) (fun _ _ _ h => h) (Or.inr ⟨by rfl, rfl⟩) (by assumption) ?_
                    try simp only [Act.put, List.setIfInBounds_toArray, List.set_cons_zero, List.set_cons_succ]
                    refine wpAnyH_take (i := 13) (oi := { dst := some 90, op := Op.indexAddr 26 (Operand.tmp 88) (Operand.tmp 89), type := 0, pos := "law.go:168", after := #[{ on := 11, ground := Ground.data }, { on := 12, ground := Ground.data }, { on := 7, ground := Ground.guard }], guard := some (7, false) }) (v := undef) rfl (by kernel_rfl) (by kernel_rfl) (by kernel_rfl) (fun _ _ _ h => h) (Or.inr ⟨by rfl, rfl⟩) (by assumption) ?_
                    try simp only [Act.put, List.setIfInBounds_toArray, List.set_cons_zero, List.set_cons_succ]
                    refine wpAnyH_take (i := 14) (oi := { dst := some 91, op := Op.fieldAddr 43 (Operand.tmp 90) 3, type := 0, pos := "law.go:168", after := #[{ on := 13, ground := Ground.data }, { on := 7, ground := Ground.guard }], guard := some (7, false) }) (v := undef) rfl (by kernel_rfl) (by kernel_rfl) (by kernel_rfl) (fun _ _ _ h => h) (Or.inr ⟨by rfl, rfl⟩) (by assumption) ?_
                    try simp only [Act.put, List.setIfInBounds_toArray, List.set_cons_zero, List.set_cons_succ]
                    refine wpAnyH_take (i := 15) (oi := { dst := some 92, op := Op.load 41 (Operand.tmp 91), type := 41, pos := "law.go:168", after := #[{ on := 14, ground := Ground.data }, { on := 7, ground := Ground.guard }], guard := some (7, false) }) (v := undef) rfl (by kernel_rfl) (by kernel_rfl) (by kernel_rfl) (fun _ _ _ h => h) (Or.inr ⟨by rfl, rfl⟩) (by assumption) ?_
                    try simp only [Act.put, List.setIfInBounds_toArray, List.set_cons_zero, List.set_cons_succ]
                    refine wpAnyH_take (i := 16) (oi := { dst := some 93, op := Op.call { callee := Callee.value (Operand.func 20), args := #[Operand.tmp 85, Operand.tmp 86, Operand.tmp 92], argTypes := #[46, 39, 41] }, type := 4, pos := "law.go:168", after := #[{ on := 8, ground := Ground.data }, { on := 9, ground := Ground.data }, { on := 15, ground := Ground.data }, { on := 7, ground := Ground.chain }, { on := 7, ground := Ground.guard }], guard := some (7, false) }) (v := undef) rfl (by kernel_rfl) (by kernel_rfl) (by kernel_rfl) (fun _ _ _ h => h) (Or.inr ⟨by rfl, rfl⟩) (by assumption) ?_
                    try simp only [Act.put, List.setIfInBounds_toArray, List.set_cons_zero, List.set_cons_succ]
                    refine wpAnyH_take (i := 17) (oi := { dst := some 94, op := Op.unOp UnOp.not 4 (Operand.tmp 93), type := 4, pos := "law.go:168", after := #[{ on := 16, ground := Ground.data }, { on := 7, ground := Ground.guard }], guard := some (7, false) }) (v := undef) rfl (by kernel_rfl) (by kernel_rfl) (by kernel_rfl) (fun _ _ _ h => h) (Or.inr ⟨by rfl, rfl⟩) (by assumption) ?_
                    try simp only [Act.put, List.setIfInBounds_toArray, List.set_cons_zero, List.set_cons_succ]
                    refine wpAnyH_take (i := 18) (oi := { dst := some 95, op := Op.pick (Operand.tmp 84) (Operand.const (Value.bool true)) (Operand.tmp 94), type := 4, pos := "law.go:168", after := #[{ on := 7, ground := Ground.data }, { on := 17, ground := Ground.data }], guard := none }) (v := .bool true) rfl (by kernel_rfl) (by kernel_rfl) (by kernel_rfl) (fun _ _ _ h => h) (Or.inl ⟨by rfl, fun w hSw => by go_simp⟩) (by assumption) ?_
                    try simp only [Act.put, List.setIfInBounds_toArray, List.set_cons_zero, List.set_cons_succ]
                    refine wpAnyH_done (by kernel_rfl) ?_ _
                    try unfold NoPanic
                    have HF := Lib.hid (HW10.out.step hHeld)
                    clear hHeld
                    go_wp2
                    go_roundw
                    case rel => exact ⟨b + 1, by omega, x, r, by rw [HHZ.out], by go_num, HNX.out, HF.out⟩
                    case measure => simp [intOf]; omega
                · have hb8 : b = 8 := by omega
                  have HX8 : Hid (stB f L a n 8 = (x, r)) := Lib.hid (by rw [← hb8]; exact HXR.out)
                  clear hb8 HXR
                  go_wp2
                  go_loopw [18, 19] (fun vv iv wt => ∃ j : Nat, j ≤ nr ∧ ∃ v : Int, vv = .int .i64 v ∧ iv = .int .i64 j ∧ Hid (InAt rs a n j v) ∧ Hid (SelW w6 wt wb pb a n r)) (fun _ iv _ => nr - (intOf iv).toNat)
                  case atStart => exact ⟨0, Nat.zero_le _, -1, rfl, rfl, InAt.zero _ _ _, HW.out⟩
                  case round =>
                    clear HW
                    obtain ⟨j, hj, v, rfl, rfl, HIN, HW⟩ := hrel
                    by_cases hlt4 : j < nr
                    · have hjr : j < rs.length := by rw [← HNR0.out]; exact hlt4
                      have HHIT := Lib.hid (fun h => InAt.hit (a := a) (n := n) hjr h)
                      have HMISS := Lib.hid (fun h => HIN.out.miss hjr h)
                      obtain ⟨rb, cur, rfl, -, hcur, hcl⟩ := HRO.out (by omega)
                      have hx := hcl j hjr
                      generalize rs[j] = rj at hx HHIT HMISS
                      obtain ⟨x1, hx1⟩ : ∃ x1, x1 = rj.a := ⟨_, rfl⟩
                      obtain ⟨x2, hx2⟩ : ∃ x2, x2 = rj.n := ⟨_, rfl⟩
                      rw [← hx1, ← hx2] at HHIT HMISS
                      have hrl := (Array.getElem?_eq_some_iff.1 hcur).1
                      have HX : Hid (∀ W, Below wr.heap.size wr W → W.cell? ⟨rb, j * 5, none⟩ = some (.int .u32 (x1 : Int)) ∧ W.cell? ⟨rb, j * 5 + 1, none⟩ = some (.int .u8 (x2 : Int))) := Lib.hid fun W hW => by
                        have h5 := hx.keep ((HW.out.step hW).b.block rb hrl)
                        rw [hx1, hx2]
                        exact ⟨h5.k0, h5.k1⟩
                      clear hx hcl hcur hrl hx1 hx2
                      go_upto_region 32 with (fail)
                      by_cases h1 : a = x1
                      · by_cases h2 : n = x2
                        · subst h1 h2
                          refine wp_region_noPanic ?_
                          refine wp_region_held_drew (S := fun y : World => Below wr.heap.size wr y) (by kernel_rfl) ((Below.refl _ _).drew) (fun hHeld => ?_)
                          generalize wr.drew = wd at *
                          refine wpAnyH_take (i := 0) (oi := { dst := some 139, op := Op.move (Operand.tmp 9), type := 48, pos := "law.go:179", after := #[], guard := none }) (v := .slice (some ⟨rb, 0, none⟩) nr cr) rfl (by kernel_rfl) (by kernel_rfl) (by kernel_rfl) (fun _ _ _ h => h) (Or.inl ⟨by rfl, fun w hSw => by go_simp⟩) (by assumption) ?_
                          try simp only [Act.put, List.setIfInBounds_toArray, List.set_cons_zero, List.set_cons_succ]
                          refine wpAnyH_take (i := 1) (oi := { dst := some 140, op := Op.move (Operand.tmp 19), type := 3, pos := "law.go:179", after := #[], guard := none }) (v := .int .i64 (j : Int)) rfl (by kernel_rfl) (by kernel_rfl) (by kernel_rfl) (fun _ _ _ h => h) (Or.inl ⟨by rfl, fun w hSw => by go_simp⟩) (by assumption) ?_
                          try simp only [Act.put, List.setIfInBounds_toArray, List.set_cons_zero, List.set_cons_succ]
                          refine wpAnyH_take (i := 2) (oi := { dst := some 141, op := Op.indexAddr 48 (Operand.tmp 139) (Operand.tmp 140), type := 0, pos := "law.go:179", after := #[{ on := 0, ground := Ground.data }, { on := 1, ground := Ground.data }], guard := none }) (v := .pointer (some ⟨rb, j * 5, none⟩)) rfl (by kernel_rfl) (by kernel_rfl) (by kernel_rfl) (fun _ _ _ h => h) (Or.inl ⟨by rfl, fun w hSw => by go_simp⟩) (by assumption) ?_
                          try simp only [Act.put, List.setIfInBounds_toArray, List.set_cons_zero, List.set_cons_succ]
                          refine wpAnyH_take (i := 3) (oi := { dst := some 142, op := Op.fieldAddr 53 (Operand.tmp 141) 0, type := 0, pos := "law.go:179", after := #[{ on := 2, ground := Ground.data }], guard := none }) (v := .pointer (some ⟨rb, j * 5, none⟩)) rfl (by kernel_rfl) (by kernel_rfl) (by kernel_rfl) (fun _ _ _ h => h) (Or.inl ⟨by rfl, fun w hSw => by go_simp⟩) (by assumption) ?_
                          try simp only [Act.put, List.setIfInBounds_toArray, List.set_cons_zero, List.set_cons_succ]
                          refine wpAnyH_take (i := 4) (oi := { dst := some 143, op := Op.load 39 (Operand.tmp 142), type := 39, pos := "law.go:179", after := #[{ on := 3, ground := Ground.data }], guard := none }) (v := .agg #[.int .u32 (a : Int), .int .u8 (n : Int)]) rfl (by kernel_rfl) (by kernel_rfl) (by kernel_rfl) (fun _ _ _ h => h) (Or.inl ⟨by rfl, fun w hSw => by obtain ⟨c0, c1⟩ := HX.out _ hSw; go_simp⟩) (by assumption) ?_
                          try simp only [Act.put, List.setIfInBounds_toArray, List.set_cons_zero, List.set_cons_succ]
                          refine wpAnyH_take (i := 5) (oi := { dst := some 144, op := Op.load 39 (Operand.tmp 14), type := 39, pos := "law.go:179", after := #[], guard := none }) (v := .agg #[.int .u32 (a : Int), .int .u8 (n : Int)]) rfl (by kernel_rfl) (by kernel_rfl) (by kernel_rfl) (fun _ _ _ h => h) (Or.inl ⟨by rfl, fun w hSw => by obtain ⟨p0, p1, -⟩ := row2 (brow hSw HW.out.p); go_simp⟩) (by assumption) ?_
                          try simp only [Act.put, List.setIfInBounds_toArray, List.set_cons_zero, List.set_cons_succ]
                          refine wpAnyH_take (i := 6) (oi := { dst := some 145, op := Op.binOp BinOp.eql 39 (Operand.tmp 143) (Operand.tmp 144) 39, type := 4, pos := "law.go:179", after := #[{ on := 4, ground := Ground.data }, { on := 5, ground := Ground.data }], guard := none }) (v := .bool true) rfl (by kernel_rfl) (by kernel_rfl) (by kernel_rfl) (fun _ _ _ h => h) (Or.inl ⟨by rfl, fun w hSw => by go_simp⟩) (by assumption) ?_
                          try simp only [Act.put, List.setIfInBounds_toArray, List.set_cons_zero, List.set_cons_succ]
                          refine wpAnyH_done (by kernel_rfl) ?_ _
                          try unfold NoPanic
                          have HF := Lib.hid (HW.out.step hHeld)
                          clear hHeld
                          go_wp2
                          go_roundw
                          case rel => exact ⟨j + 1, by omega, _, rfl, by go_num, HHIT.out (by simp), HF.out⟩
                          case measure => simp [intOf]; omega
                        · have h2' : ¬ (x2 : Int) = (n : Int) := by omega
                          subst h1
                          refine wp_region_noPanic ?_
                          refine wp_region_held_drew (S := fun y : World => Below wr.heap.size wr y) (by kernel_rfl) ((Below.refl _ _).drew) (fun hHeld => ?_)
                          generalize wr.drew = wd at *
                          refine wpAnyH_take (i := 0) (oi := { dst := some 139, op := Op.move (Operand.tmp 9), type := 48, pos := "law.go:179", after := #[], guard := none }) (v := .slice (some ⟨rb, 0, none⟩) nr cr) rfl (by kernel_rfl) (by kernel_rfl) (by kernel_rfl) (fun _ _ _ h => h) (Or.inl ⟨by rfl, fun w hSw => by go_simp⟩) (by assumption) ?_
                          try simp only [Act.put, List.setIfInBounds_toArray, List.set_cons_zero, List.set_cons_succ]
                          refine wpAnyH_take (i := 1) (oi := { dst := some 140, op := Op.move (Operand.tmp 19), type := 3, pos := "law.go:179", after := #[], guard := none }) (v := .int .i64 (j : Int)) rfl (by kernel_rfl) (by kernel_rfl) (by kernel_rfl) (fun _ _ _ h => h) (Or.inl ⟨by rfl, fun w hSw => by go_simp⟩) (by assumption) ?_
                          try simp only [Act.put, List.setIfInBounds_toArray, List.set_cons_zero, List.set_cons_succ]
                          refine wpAnyH_take (i := 2) (oi := { dst := some 141, op := Op.indexAddr 48 (Operand.tmp 139) (Operand.tmp 140), type := 0, pos := "law.go:179", after := #[{ on := 0, ground := Ground.data }, { on := 1, ground := Ground.data }], guard := none }) (v := .pointer (some ⟨rb, j * 5, none⟩)) rfl (by kernel_rfl) (by kernel_rfl) (by kernel_rfl) (fun _ _ _ h => h) (Or.inl ⟨by rfl, fun w hSw => by go_simp⟩) (by assumption) ?_
                          try simp only [Act.put, List.setIfInBounds_toArray, List.set_cons_zero, List.set_cons_succ]
                          refine wpAnyH_take (i := 3) (oi := { dst := some 142, op := Op.fieldAddr 53 (Operand.tmp 141) 0, type := 0, pos := "law.go:179", after := #[{ on := 2, ground := Ground.data }], guard := none }) (v := .pointer (some ⟨rb, j * 5, none⟩)) rfl (by kernel_rfl) (by kernel_rfl) (by kernel_rfl) (fun _ _ _ h => h) (Or.inl ⟨by rfl, fun w hSw => by go_simp⟩) (by assumption) ?_
                          try simp only [Act.put, List.setIfInBounds_toArray, List.set_cons_zero, List.set_cons_succ]
                          refine wpAnyH_take (i := 4) (oi := { dst := some 143, op := Op.load 39 (Operand.tmp 142), type := 39, pos := "law.go:179", after := #[{ on := 3, ground := Ground.data }], guard := none }) (v := .agg #[.int .u32 (a : Int), .int .u8 (x2 : Int)]) rfl (by kernel_rfl) (by kernel_rfl) (by kernel_rfl) (fun _ _ _ h => h) (Or.inl ⟨by rfl, fun w hSw => by obtain ⟨c0, c1⟩ := HX.out _ hSw; go_simp⟩) (by assumption) ?_
                          try simp only [Act.put, List.setIfInBounds_toArray, List.set_cons_zero, List.set_cons_succ]
                          refine wpAnyH_take (i := 5) (oi := { dst := some 144, op := Op.load 39 (Operand.tmp 14), type := 39, pos := "law.go:179", after := #[], guard := none }) (v := .agg #[.int .u32 (a : Int), .int .u8 (n : Int)]) rfl (by kernel_rfl) (by kernel_rfl) (by kernel_rfl) (fun _ _ _ h => h) (Or.inl ⟨by rfl, fun w hSw => by obtain ⟨p0, p1, -⟩ := row2 (brow hSw HW.out.p); go_simp⟩) (by assumption) ?_
                          try simp only [Act.put, List.setIfInBounds_toArray, List.set_cons_zero, List.set_cons_succ]
                          refine wpAnyH_take (i := 6) (oi := { dst := some 145, op := Op.binOp BinOp.eql 39 (Operand.tmp 143) (Operand.tmp 144) 39, type := 4, pos := "law.go:179", after := #[{ on := 4, ground := Ground.data }, { on := 5, ground := Ground.data }], guard := none }) (v := .bool false) rfl (by kernel_rfl) (by kernel_rfl) (by kernel_rfl) (fun _ _ _ h => h) (Or.inl ⟨by rfl, fun w hSw => by go_simp⟩) (by assumption) ?_
                          try simp only [Act.put, List.setIfInBounds_toArray, List.set_cons_zero, List.set_cons_succ]
                          refine wpAnyH_done (by kernel_rfl) ?_ _
                          try unfold NoPanic
                          have HF := Lib.hid (HW.out.step hHeld)
                          clear hHeld
                          go_wp2
                          go_roundw
                          case rel => exact ⟨j + 1, by omega, v, rfl, by go_num, HMISS.out (fun h => by have := h.2; omega), HF.out⟩
                          case measure => simp [intOf]; omega
                      · have h1' : ¬ (x1 : Int) = (a : Int) := by omega
                        refine wp_region_noPanic ?_
                        refine wp_region_held_drew (S := fun y : World => Below wr.heap.size wr y) (by kernel_rfl) ((Below.refl _ _).drew) (fun hHeld => ?_)
                        generalize wr.drew = wd at *
                        refine wpAnyH_take (i := 0) (oi := { dst := some 139, op := Op.move (Operand.tmp 9), type := 48, pos := "law.go:179", after := #[], guard := none }) (v := .slice (some ⟨rb, 0, none⟩) nr cr) rfl (by kernel_rfl) (by kernel_rfl) (by kernel_rfl) (fun _ _ _ h => h) (Or.inl ⟨by rfl, fun w hSw => by go_simp⟩) (by assumption) ?_
                        try simp only [Act.put, List.setIfInBounds_toArray, List.set_cons_zero, List.set_cons_succ]
                        refine wpAnyH_take (i := 1) (oi := { dst := some 140, op := Op.move (Operand.tmp 19), type := 3, pos := "law.go:179", after := #[], guard := none }) (v := .int .i64 (j : Int)) rfl (by kernel_rfl) (by kernel_rfl) (by kernel_rfl) (fun _ _ _ h => h) (Or.inl ⟨by rfl, fun w hSw => by go_simp⟩) (by assumption) ?_
                        try simp only [Act.put, List.setIfInBounds_toArray, List.set_cons_zero, List.set_cons_succ]
                        refine wpAnyH_take (i := 2) (oi := { dst := some 141, op := Op.indexAddr 48 (Operand.tmp 139) (Operand.tmp 140), type := 0, pos := "law.go:179", after := #[{ on := 0, ground := Ground.data }, { on := 1, ground := Ground.data }], guard := none }) (v := .pointer (some ⟨rb, j * 5, none⟩)) rfl (by kernel_rfl) (by kernel_rfl) (by kernel_rfl) (fun _ _ _ h => h) (Or.inl ⟨by rfl, fun w hSw => by go_simp⟩) (by assumption) ?_
                        try simp only [Act.put, List.setIfInBounds_toArray, List.set_cons_zero, List.set_cons_succ]
                        refine wpAnyH_take (i := 3) (oi := { dst := some 142, op := Op.fieldAddr 53 (Operand.tmp 141) 0, type := 0, pos := "law.go:179", after := #[{ on := 2, ground := Ground.data }], guard := none }) (v := .pointer (some ⟨rb, j * 5, none⟩)) rfl (by kernel_rfl) (by kernel_rfl) (by kernel_rfl) (fun _ _ _ h => h) (Or.inl ⟨by rfl, fun w hSw => by go_simp⟩) (by assumption) ?_
                        try simp only [Act.put, List.setIfInBounds_toArray, List.set_cons_zero, List.set_cons_succ]
                        refine wpAnyH_take (i := 4) (oi := { dst := some 143, op := Op.load 39 (Operand.tmp 142), type := 39, pos := "law.go:179", after := #[{ on := 3, ground := Ground.data }], guard := none }) (v := .agg #[.int .u32 (x1 : Int), .int .u8 (x2 : Int)]) rfl (by kernel_rfl) (by kernel_rfl) (by kernel_rfl) (fun _ _ _ h => h) (Or.inl ⟨by rfl, fun w hSw => by obtain ⟨c0, c1⟩ := HX.out _ hSw; go_simp⟩) (by assumption) ?_
                        try simp only [Act.put, List.setIfInBounds_toArray, List.set_cons_zero, List.set_cons_succ]
                        refine wpAnyH_take (i := 5) (oi := { dst := some 144, op := Op.load 39 (Operand.tmp 14), type := 39, pos := "law.go:179", after := #[], guard := none }) (v := .agg #[.int .u32 (a : Int), .int .u8 (n : Int)]) rfl (by kernel_rfl) (by kernel_rfl) (by kernel_rfl) (fun _ _ _ h => h) (Or.inl ⟨by rfl, fun w hSw => by obtain ⟨p0, p1, -⟩ := row2 (brow hSw HW.out.p); go_simp⟩) (by assumption) ?_
                        try simp only [Act.put, List.setIfInBounds_toArray, List.set_cons_zero, List.set_cons_succ]
                        refine wpAnyH_take (i := 6) (oi := { dst := some 145, op := Op.binOp BinOp.eql 39 (Operand.tmp 143) (Operand.tmp 144) 39, type := 4, pos := "law.go:179", after := #[{ on := 4, ground := Ground.data }, { on := 5, ground := Ground.data }], guard := none }) (v := .bool false) rfl (by kernel_rfl) (by kernel_rfl) (by kernel_rfl) (fun _ _ _ h => h) (Or.inl ⟨by rfl, fun w hSw => by go_simp⟩) (by assumption) ?_
                        try simp only [Act.put, List.setIfInBounds_toArray, List.set_cons_zero, List.set_cons_succ]
                        refine wpAnyH_done (by kernel_rfl) ?_ _
                        try unfold NoPanic
                        have HF := Lib.hid (HW.out.step hHeld)
                        clear hHeld
                        go_wp2
                        go_roundw
                        case rel => exact ⟨j + 1, by omega, v, rfl, by go_num, HMISS.out (fun h => by have := h.1; omega), HF.out⟩
                        case measure => simp [intOf]; omega
                    · obtain rfl : j = nr := by omega
                      rcases HIN.out with ⟨rfl, hno⟩ | ⟨i, hi, rfl, hia, hin⟩
                      · have hnot : ∀ r ∈ rs, ¬ (r.a = a ∧ r.n = n) := fun r hr => by
                          obtain ⟨i, hi, rfl⟩ := List.getElem_of_mem hr
                          exact hno i hi (by rw [HNR0.out]; exact hi)
                        have hzf : hz = false := by
                          rw [HHZ.out]
                          have := HS6.out.1.not HI.out.1 hnot
                          rw [HX8.out] at this
                          exact decide_eq_false this
                        have HCN : Hid (cntB bs (F + 1) = cn) := Lib.hid (by
                          rw [HCS.out, if_neg]
                          · rfl
                          · rintro ⟨-, h⟩
                            rw [HBS.out] at h
                            obtain ⟨r, hr, he⟩ := List.mem_map.1 h
                            injection he with e1 e2
                            exact hnot r hr ⟨e1, e2⟩)
                        subst hzf
                        clear hno hnot
                        go_upto_region 34 with (fail)
                        refine wp_region_noPanic ?_
                        refine wp_region_held_drew (S := fun y : World => Below wr.heap.size wr y) (by kernel_rfl) ((Below.refl _ _).drew) (fun hHeld => ?_)
                        generalize wr.drew = wd at *
                        refine wpAnyH_take (i := 0) (oi := { dst := some 147, op := Op.move (Operand.tmp 13), type := 4, pos := "law.go:183", after := #[], guard := none }) (v := .bool false) rfl (by kernel_rfl) (by kernel_rfl) (by kernel_rfl) (fun _ _ _ h => h) (Or.inl ⟨by rfl, fun w hSw => by go_simp⟩) (by assumption) ?_
                        try simp only [Act.put, List.setIfInBounds_toArray, List.set_cons_zero, List.set_cons_succ]
                        refine wpAnyH_take (i := 1) (oi := { dst := some 148, op := Op.move (Operand.tmp 18), type := 3, pos := "law.go:183", after := #[], guard := none }) (v := .int .i64 (-1)) rfl (by kernel_rfl) (by kernel_rfl) (by kernel_rfl) (fun _ _ _ h => h) (Or.inl ⟨by rfl, fun w hSw => by go_simp⟩) (by assumption) ?_
                        try simp only [Act.put, List.setIfInBounds_toArray, List.set_cons_zero, List.set_cons_succ]
                        refine wpAnyH_take (i := 2) (oi := { dst := some 149, op := Op.binOp BinOp.geq 3 (Operand.tmp 148) (Operand.const (Value.int IntKind.i64 0)) 3, type := 4, pos := "law.go:183", after := #[{ on := 1, ground := Ground.data }], guard := none }) (v := .bool false) rfl (by kernel_rfl) (by kernel_rfl) (by kernel_rfl) (fun _ _ _ h => h) (Or.inl ⟨by rfl, fun w hSw => by go_simp⟩) (by assumption) ?_
                        try simp only [Act.put, List.setIfInBounds_toArray, List.set_cons_zero, List.set_cons_succ]
                        refine wpAnyH_take (i := 3) (oi := { dst := some 150, op := Op.binOp BinOp.neq 4 (Operand.tmp 147) (Operand.tmp 149) 4, type := 4, pos := "law.go:183", after := #[{ on := 0, ground := Ground.data }, { on := 2, ground := Ground.data }], guard := none }) (v := .bool false) rfl (by kernel_rfl) (by kernel_rfl) (by kernel_rfl) (fun _ _ _ h => h) (Or.inl ⟨by rfl, fun w hSw => by go_simp⟩) (by assumption) ?_
                        try simp only [Act.put, List.setIfInBounds_toArray, List.set_cons_zero, List.set_cons_succ]
                        refine wpAnyH_take (i := 4) (oi := { dst := some 151, op := Op.move (Operand.tmp 150), type := 4, pos := "law.go:183", after := #[{ on := 3, ground := Ground.data }], guard := none }) (v := .bool false) rfl (by kernel_rfl) (by kernel_rfl) (by kernel_rfl) (fun _ _ _ h => h) (Or.inl ⟨by rfl, fun w hSw => by go_simp⟩) (by assumption) ?_
                        try simp only [Act.put, List.setIfInBounds_toArray, List.set_cons_zero, List.set_cons_succ]
                        refine wpAnyH_take (i := 5) (oi := { dst := some 152, op := Op.move (Operand.tmp 13), type := 4, pos := "law.go:183", after := #[{ on := 4, ground := Ground.guard }], guard := some (4, false) }) (v := .bool false) rfl (by kernel_rfl) (by kernel_rfl) (by kernel_rfl) (fun _ _ _ h => h) (Or.inl ⟨by rfl, fun w hSw => by go_simp⟩) (by assumption) ?_
                        try simp only [Act.put, List.setIfInBounds_toArray, List.set_cons_zero, List.set_cons_succ]
                        refine wpAnyH_take (i := 6) (oi := { dst := some 153, op := Op.move (Operand.tmp 152), type := 4, pos := "law.go:183", after := #[{ on := 5, ground := Ground.data }, { on := 4, ground := Ground.chain }, { on := 4, ground := Ground.guard }], guard := some (4, false) }) (v := .bool false) rfl (by kernel_rfl) (by kernel_rfl) (by kernel_rfl) (fun _ _ _ h => h) (Or.inl ⟨by rfl, fun w hSw => by go_simp⟩) (by assumption) ?_
                        try simp only [Act.put, List.setIfInBounds_toArray, List.set_cons_zero, List.set_cons_succ]
                        refine wpAnyH_take (i := 7) (oi := { dst := some 154, op := Op.move (Operand.tmp 9), type := 48, pos := "law.go:183", after := #[{ on := 6, ground := Ground.guard }], guard := some (6, true) }) (v := undef) rfl (by kernel_rfl) (by kernel_rfl) (by kernel_rfl) (fun _ _ _ h => h) (Or.inr ⟨by rfl, rfl⟩) (by assumption) ?_
                        try simp only [Act.put, List.setIfInBounds_toArray, List.set_cons_zero, List.set_cons_succ]
                        refine wpAnyH_take (i := 8) (oi := { dst := some 155, op := Op.move (Operand.tmp 18), type := 3, pos := "law.go:183", after := #[{ on := 6, ground := Ground.guard }], guard := some (6, true) }) (v := undef) rfl (by kernel_rfl) (by kernel_rfl) (by kernel_rfl) (fun _ _ _ h => h) (Or.inr ⟨by rfl, rfl⟩) (by assumption) ?_
                        try simp only [Act.put, List.setIfInBounds_toArray, List.set_cons_zero, List.set_cons_succ]
                        refine wpAnyH_take (i := 9) (oi := { dst := some 156, op := Op.indexAddr 48 (Operand.tmp 154) (Operand.tmp 155), type := 0, pos := "law.go:183", after := #[{ on := 7, ground := Ground.data }, { on := 8, ground := Ground.data }, { on := 6, ground := Ground.guard }], guard := some (6, true) }) (v := undef) rfl (by kernel_rfl) (by kernel_rfl) (by kernel_rfl) (fun _ _ _ h => h) (Or.inr ⟨by rfl, rfl⟩) (by assumption) ?_
                        try simp only [Act.put, List.setIfInBounds_toArray, List.set_cons_zero, List.set_cons_succ]
                        refine wpAnyH_take (i := 10) (oi := { dst := some 157, op := Op.load 53 (Operand.tmp 156), type := 53, pos := "law.go:183", after := #[{ on := 9, ground := Ground.data }, { on := 6, ground := Ground.guard }], guard := some (6, true) }) (v := undef) rfl (by kernel_rfl) (by kernel_rfl) (by kernel_rfl) (fun _ _ _ h => h) (Or.inr ⟨by rfl, rfl⟩) (by assumption) ?_
                        try simp only [Act.put, List.setIfInBounds_toArray, List.set_cons_zero, List.set_cons_succ]
                        refine wpAnyH_take (i := 11) (oi := { dst := some 158, op := Op.load 53 (Operand.tmp 12), type := 53, pos := "law.go:183", after := #[{ on := 6, ground := Ground.guard }], guard := some (6, true) }) (v := undef) rfl (by kernel_rfl) (by kernel_rfl) (by kernel_rfl) (fun _ _ _ h => h) (Or.inr ⟨by rfl, rfl⟩) (by assumption) ?_
                        try simp only [Act.put, List.setIfInBounds_toArray, List.set_cons_zero, List.set_cons_succ]
                        refine wpAnyH_take (i := 12) (oi := { dst := some 159, op := Op.binOp BinOp.neq 53 (Operand.tmp 157) (Operand.tmp 158) 53, type := 4, pos := "law.go:183", after := #[{ on := 10, ground := Ground.data }, { on := 11, ground := Ground.data }, { on := 6, ground := Ground.guard }], guard := some (6, true) }) (v := undef) rfl (by kernel_rfl) (by kernel_rfl) (by kernel_rfl) (fun _ _ _ h => h) (Or.inr ⟨by rfl, rfl⟩) (by assumption) ?_
                        try simp only [Act.put, List.setIfInBounds_toArray, List.set_cons_zero, List.set_cons_succ]
                        refine wpAnyH_take (i := 13) (oi := { dst := some 160, op := Op.pick (Operand.tmp 153) (Operand.tmp 159) (Operand.const (Value.bool false)), type := 4, pos := "law.go:183", after := #[{ on := 6, ground := Ground.data }, { on := 12, ground := Ground.data }, { on := 4, ground := Ground.guard }], guard := some (4, false) }) (v := .bool false) rfl (by kernel_rfl) (by kernel_rfl) (by kernel_rfl) (fun _ _ _ h => h) (Or.inl ⟨by rfl, fun w hSw => by go_simp⟩) (by assumption) ?_
                        try simp only [Act.put, List.setIfInBounds_toArray, List.set_cons_zero, List.set_cons_succ]
                        refine wpAnyH_take (i := 14) (oi := { dst := some 161, op := Op.pick (Operand.tmp 151) (Operand.const (Value.bool true)) (Operand.tmp 160), type := 4, pos := "law.go:183", after := #[{ on := 4, ground := Ground.data }, { on := 13, ground := Ground.data }], guard := none }) (v := .bool false) rfl (by kernel_rfl) (by kernel_rfl) (by kernel_rfl) (fun _ _ _ h => h) (Or.inl ⟨by rfl, fun w hSw => by go_simp⟩) (by assumption) ?_
                        try simp only [Act.put, List.setIfInBounds_toArray, List.set_cons_zero, List.set_cons_succ]
                        refine wpAnyH_done (by kernel_rfl) ?_ _
                        try unfold NoPanic
                        have HF := Lib.hid (HW.out.step hHeld)
                        clear hHeld
                        go_wp2
                        go_roundw
                        case rel => exact ⟨F + 1, by omega, by rw [HCN.out], by go_num, HF.out.b⟩
                        case measure => simp [intOf]; omega
                      · have his := HS6.out.1.is HI.out.1 (List.getElem_mem hi)
                        rw [hia, hin, HX8.out] at his
                        have hzt : hz = true := by rw [HHZ.out]; exact decide_eq_true his.1
                        have hri : rs[i] = r := his.2.symm
                        have HCN : Hid (cntB bs (F + 1) = cn + 1) := Lib.hid (by
                          rw [HCS.out, if_pos]
                          have : (a, n) ∈ bs := by rw [HBS.out]; exact List.mem_map.2 ⟨rs[i], List.getElem_mem hi, by rw [hia, hin]⟩
                          simp [this])
                        obtain ⟨rb, cur, rfl, -, hcur, hcl⟩ := HRO.out (by have := HNR0.out; omega)
                        have hx := hcl i hi
                        rw [hri] at hx
                        have hrl := (Array.getElem?_eq_some_iff.1 hcur).1
                        have HRI := Lib.hid (hx.keep (HW.out.b.block rb hrl))
                        have HRL := Lib.hid (Nat.lt_of_lt_of_le hrl HW.out.b.size)
                        have hi2 : (i : Int) < (j : Int) := by have := HNR0.out; omega
                        have hi3 : (0 : Int) ≤ (i : Int) := by omega
                        have hi4 : ¬ (i : Int) < 0 := by omega
                        subst hzt
                        clear hia hin his hri hx hcl hcur hrl hi
                        go_upto_region 34 with (fail)
                        refine wp_region_noPanic ?_
                        refine wp_region_held_drew (S := fun y : World => Below wr.heap.size wr y) (by kernel_rfl) ((Below.refl _ _).drew) (fun hHeld => ?_)
                        generalize wr.drew = wd at *
                        refine wpAnyH_take (i := 0) (oi := { dst := some 147, op := Op.move (Operand.tmp 13), type := 4, pos := "law.go:183", after := #[], guard := none }) (v := .bool true) rfl (by kernel_rfl) (by kernel_rfl) (by kernel_rfl) (fun _ _ _ h => h) (Or.inl ⟨by rfl, fun w hSw => by go_simp⟩) (by assumption) ?_
                        try simp only [Act.put, List.setIfInBounds_toArray, List.set_cons_zero, List.set_cons_succ]
                        refine wpAnyH_take (i := 1) (oi := { dst := some 148, op := Op.move (Operand.tmp 18), type := 3, pos := "law.go:183", after := #[], guard := none }) (v := .int .i64 (i : Int)) rfl (by kernel_rfl) (by kernel_rfl) (by kernel_rfl) (fun _ _ _ h => h) (Or.inl ⟨by rfl, fun w hSw => by go_simp⟩) (by assumption) ?_
                        try simp only [Act.put, List.setIfInBounds_toArray, List.set_cons_zero, List.set_cons_succ]
                        refine wpAnyH_take (i := 2) (oi := { dst := some 149, op := Op.binOp BinOp.geq 3 (Operand.tmp 148) (Operand.const (Value.int IntKind.i64 0)) 3, type := 4, pos := "law.go:183", after := #[{ on := 1, ground := Ground.data }], guard := none }) (v := .bool true) rfl (by kernel_rfl) (by kernel_rfl) (by kernel_rfl) (fun _ _ _ h => h) (Or.inl ⟨by rfl, fun w hSw => by go_simp⟩) (by assumption) ?_
                        try simp only [Act.put, List.setIfInBounds_toArray, List.set_cons_zero, List.set_cons_succ]
                        refine wpAnyH_take (i := 3) (oi := { dst := some 150, op := Op.binOp BinOp.neq 4 (Operand.tmp 147) (Operand.tmp 149) 4, type := 4, pos := "law.go:183", after := #[{ on := 0, ground := Ground.data }, { on := 2, ground := Ground.data }], guard := none }) (v := .bool false) rfl (by kernel_rfl) (by kernel_rfl) (by kernel_rfl) (fun _ _ _ h => h) (Or.inl ⟨by rfl, fun w hSw => by go_simp⟩) (by assumption) ?_
                        try simp only [Act.put, List.setIfInBounds_toArray, List.set_cons_zero, List.set_cons_succ]
                        refine wpAnyH_take (i := 4) (oi := { dst := some 151, op := Op.move (Operand.tmp 150), type := 4, pos := "law.go:183", after := #[{ on := 3, ground := Ground.data }], guard := none }) (v := .bool false) rfl (by kernel_rfl) (by kernel_rfl) (by kernel_rfl) (fun _ _ _ h => h) (Or.inl ⟨by rfl, fun w hSw => by go_simp⟩) (by assumption) ?_
                        try simp only [Act.put, List.setIfInBounds_toArray, List.set_cons_zero, List.set_cons_succ]
                        refine wpAnyH_take (i := 5) (oi := { dst := some 152, op := Op.move (Operand.tmp 13), type := 4, pos := "law.go:183", after := #[{ on := 4, ground := Ground.guard }], guard := some (4, false) }) (v := .bool true) rfl (by kernel_rfl) (by kernel_rfl) (by kernel_rfl) (fun _ _ _ h => h) (Or.inl ⟨by rfl, fun w hSw => by go_simp⟩) (by assumption) ?_
                        try simp only [Act.put, List.setIfInBounds_toArray, List.set_cons_zero, List.set_cons_succ]
                        refine wpAnyH_take (i := 6) (oi := { dst := some 153, op := Op.move (Operand.tmp 152), type := 4, pos := "law.go:183", after := #[{ on := 5, ground := Ground.data }, { on := 4, ground := Ground.chain }, { on := 4, ground := Ground.guard }], guard := some (4, false) }) (v := .bool true) rfl (by kernel_rfl) (by kernel_rfl) (by kernel_rfl) (fun _ _ _ h => h) (Or.inl ⟨by rfl, fun w hSw => by go_simp⟩) (by assumption) ?_
                        try simp only [Act.put, List.setIfInBounds_toArray, List.set_cons_zero, List.set_cons_succ]
                        refine wpAnyH_take (i := 7) (oi := { dst := some 154, op := Op.move (Operand.tmp 9), type := 48, pos := "law.go:183", after := #[{ on := 6, ground := Ground.guard }], guard := some (6, true) }) (v := .slice (some ⟨rb, 0, none⟩) j cr) rfl (by kernel_rfl) (by kernel_rfl) (by kernel_rfl) (fun _ _ _ h => h) (Or.inl ⟨by rfl, fun w hSw => by go_simp⟩) (by assumption) ?_
                        try simp only [Act.put, List.setIfInBounds_toArray, List.set_cons_zero, List.set_cons_succ]
                        refine wpAnyH_take (i := 8) (oi := { dst := some 155, op := Op.move (Operand.tmp 18), type := 3, pos := "law.go:183", after := #[{ on := 6, ground := Ground.guard }], guard := some (6, true) }) (v := .int .i64 (i : Int)) rfl (by kernel_rfl) (by kernel_rfl) (by kernel_rfl) (fun _ _ _ h => h) (Or.inl ⟨by rfl, fun w hSw => by go_simp⟩) (by assumption) ?_
                        try simp only [Act.put, List.setIfInBounds_toArray, List.set_cons_zero, List.set_cons_succ]
                        refine wpAnyH_take (i := 9) (oi := { dst := some 156, op := Op.indexAddr 48 (Operand.tmp 154) (Operand.tmp 155), type := 0, pos := "law.go:183", after := #[{ on := 7, ground := Ground.data }, { on := 8, ground := Ground.data }, { on := 6, ground := Ground.guard }], guard := some (6, true) }) (v := .pointer (some ⟨rb, i * 5, none⟩)) rfl (by kernel_rfl) (by kernel_rfl) (by kernel_rfl) (fun _ _ _ h => h) (Or.inl ⟨by rfl, fun w hSw => by go_simp⟩) (by assumption) ?_
                        try simp only [Act.put, List.setIfInBounds_toArray, List.set_cons_zero, List.set_cons_succ]
                        refine wpAnyH_take (i := 10) (oi := { dst := some 157, op := Op.load 53 (Operand.tmp 156), type := 53, pos := "law.go:183", after := #[{ on := 9, ground := Ground.data }, { on := 6, ground := Ground.guard }], guard := some (6, true) }) (v := .agg #[.int .u32 (r.a : Int), .int .u8 (r.n : Int), .int .i64 (r.v : Int), .int .u16 (r.m : Int), .int .u16 (r.s : Int)]) rfl (by kernel_rfl) (by kernel_rfl) (by kernel_rfl) (fun _ _ _ h => h) (Or.inl ⟨by rfl, fun w hSw => by obtain ⟨k0, k1, k2, k3, k4⟩ := HRI.out.keep (hSw.block rb HRL.out); go_simp⟩) (by assumption) ?_
                        try simp only [Act.put, List.setIfInBounds_toArray, List.set_cons_zero, List.set_cons_succ]
                        refine wpAnyH_take (i := 11) (oi := { dst := some 158, op := Op.load 53 (Operand.tmp 12), type := 53, pos := "law.go:183", after := #[{ on := 6, ground := Ground.guard }], guard := some (6, true) }) (v := .agg #[.int .u32 (r.a : Int), .int .u8 (r.n : Int), .int .i64 (r.v : Int), .int .u16 (r.m : Int), .int .u16 (r.s : Int)]) rfl (by kernel_rfl) (by kernel_rfl) (by kernel_rfl) (fun _ _ _ h => h) (Or.inl ⟨by rfl, fun w hSw => by obtain ⟨z0, z1, z2, z3, z4, zf⟩ := row5' (brow hSw HW.out.x); go_simp⟩) (by assumption) ?_
                        try simp only [Act.put, List.setIfInBounds_toArray, List.set_cons_zero, List.set_cons_succ]
                        refine wpAnyH_take (i := 12) (oi := { dst := some 159, op := Op.binOp BinOp.neq 53 (Operand.tmp 157) (Operand.tmp 158) 53, type := 4, pos := "law.go:183", after := #[{ on := 10, ground := Ground.data }, { on := 11, ground := Ground.data }, { on := 6, ground := Ground.guard }], guard := some (6, true) }) (v := .bool false) rfl (by kernel_rfl) (by kernel_rfl) (by kernel_rfl) (fun _ _ _ h => h) (Or.inl ⟨by rfl, fun w hSw => by go_simp⟩) (by assumption) ?_
                        try simp only [Act.put, List.setIfInBounds_toArray, List.set_cons_zero, List.set_cons_succ]
                        refine wpAnyH_take (i := 13) (oi := { dst := some 160, op := Op.pick (Operand.tmp 153) (Operand.tmp 159) (Operand.const (Value.bool false)), type := 4, pos := "law.go:183", after := #[{ on := 6, ground := Ground.data }, { on := 12, ground := Ground.data }, { on := 4, ground := Ground.guard }], guard := some (4, false) }) (v := .bool false) rfl (by kernel_rfl) (by kernel_rfl) (by kernel_rfl) (fun _ _ _ h => h) (Or.inl ⟨by rfl, fun w hSw => by go_simp⟩) (by assumption) ?_
                        try simp only [Act.put, List.setIfInBounds_toArray, List.set_cons_zero, List.set_cons_succ]
                        refine wpAnyH_take (i := 14) (oi := { dst := some 161, op := Op.pick (Operand.tmp 151) (Operand.const (Value.bool true)) (Operand.tmp 160), type := 4, pos := "law.go:183", after := #[{ on := 4, ground := Ground.data }, { on := 13, ground := Ground.data }], guard := none }) (v := .bool false) rfl (by kernel_rfl) (by kernel_rfl) (by kernel_rfl) (fun _ _ _ h => h) (Or.inl ⟨by rfl, fun w hSw => by go_simp⟩) (by assumption) ?_
                        try simp only [Act.put, List.setIfInBounds_toArray, List.set_cons_zero, List.set_cons_succ]
                        refine wpAnyH_done (by kernel_rfl) ?_ _
                        try unfold NoPanic
                        have HF := Lib.hid (HW.out.step hHeld)
                        clear hHeld
                        go_wp2
                        go_roundw
                        case rel => exact ⟨F + 1, by omega, by first | (rw [HCN.out]; done) | (rw [HCN.out]; go_num), by go_num, HF.out.b⟩
                        case measure => simp [intOf]; omega
            · have hne : ¬ (k : Int) = (F : Int) := by omega
              have HCN : Hid (cntB bs (k + 1) = cn) := Lib.hid (by rw [HCS.out, if_neg (fun h => hFk h.1)]; rfl)
              go_wp2_with (first
                | (go_at_call 18; clear p0 p1; (with_reducible refine (CF.out _).mono ?_); rintro en w9 ⟨rfl, B9⟩; have HW9 := Lib.hid (HW8.out.step B9); clear B9))
              go_roundw
              case rel => exact ⟨k + 1, by omega, by rw [HCN.out], by go_num, HW9.out.b⟩
              case measure => simp [intOf]; omega
          · have hc18 : cntB bs k = nr := by rw [show k = 18 by omega]; exact HCNT.out
            rw [hc18]
            clear hc18
            go_wp2
            go_loopw [20] (fun iv wt => ∃ j : Nat, 1 ≤ j ∧ (j ≤ nr ∨ j = 1) ∧ iv = .int .i64 j ∧ Hid (Below w6.heap.size w6 wt)) (fun iv _ => nr - (intOf iv).toNat)
            case atStart => exact ⟨1, Nat.le_refl _, Or.inr rfl, rfl, HQ.out⟩
            case round =>
              clear HQ
              obtain ⟨j, hj1, hj2, rfl, HQ⟩ := hrel
              by_cases hlt5 : j < nr
              · obtain ⟨i, hi⟩ : ∃ i, i + 1 = j := ⟨j - 1, by omega⟩
                have hjr : j < rs.length := by rw [← HNR0.out]; exact hlt5
                have hir : i < rs.length := by omega
                have hah : (decide (rs[i].a < rs[j].a) || (rs[i].a == rs[j].a && decide (rs[i].n < rs[j].n))) = true := by
                  subst hi
                  exact HS6.out.1.ahead HI.out.1 hjr
                obtain ⟨rb, cur, rfl, -, hcur, hcl⟩ := HRO.out (by omega)
                have hx := hcl i hir
                have hx2 := hcl j hjr
                generalize rs[i] = r at hx hah
                generalize rs[j] = r2 at hx2 hah
                have hrl := (Array.getElem?_eq_some_iff.1 hcur).1
                have HR1 : Hid (∀ W, Below wr.heap.size wr W → RoAt W rb (i * 5) r) := Lib.hid fun W hW => hx.keep ((HQ.out.trans (hW.mono HQ.out.size)).block rb hrl)
                have HR2 : Hid (∀ W, Below wr.heap.size wr W → RoAt W rb (j * 5) r2) := Lib.hid fun W hW => hx2.keep ((HQ.out.trans (hW.mono HQ.out.size)).block rb hrl)
                have HAH : Hid (∀ W, Calls Try.prog 13 #[.agg #[.int .u32 (r.a : Int), .int .u8 (r.n : Int)], .agg #[.int .u32 (r2.a : Int), .int .u8 (r2.n : Int)]] W fun en w' => en = .returned (.bool true) ∧ Below W.heap.size W w') := Lib.hid fun W => by
                  have := ahead_any r.a r.n r2.a r2.n W
                  rw [hah] at this
                  exact this
                have hkj : IntKind.i64.wrap ((j : Int) - 1) = (i : Int) := by rw [IntKind.wrap_i64]; omega
                have hin : (i : Int) < (nr : Int) := by omega
                clear hx hx2 hah hcl hcur hrl hi
                go_upto_region 41 with (fail)
                refine wp_region_noPanic ?_
                refine wp_region_held_drew (S := fun y : World => Below wr.heap.size wr y) (by kernel_rfl) ((Below.refl _ _).drew) (fun hHeld => ?_)
                generalize wr.drew = wd at *
                refine wpAnyH_take (i := 0) (oi := { dst := some 171, op := Op.move (Operand.tmp 9), type := 48, pos := "law.go:191", after := #[], guard := none }) (v := .slice (some ⟨rb, 0, none⟩) nr cr) rfl (by kernel_rfl) (by kernel_rfl) (by kernel_rfl) (fun _ _ _ h => h) (Or.inl ⟨by rfl, fun w hSw => by go_simp⟩) (by assumption) ?_
                try simp only [Act.put, List.setIfInBounds_toArray, List.set_cons_zero, List.set_cons_succ]
                refine wpAnyH_take (i := 1) (oi := { dst := some 172, op := Op.move (Operand.tmp 20), type := 3, pos := "law.go:191", after := #[], guard := none }) (v := .int .i64 (j : Int)) rfl (by kernel_rfl) (by kernel_rfl) (by kernel_rfl) (fun _ _ _ h => h) (Or.inl ⟨by rfl, fun w hSw => by go_simp⟩) (by assumption) ?_
                try simp only [Act.put, List.setIfInBounds_toArray, List.set_cons_zero, List.set_cons_succ]
                refine wpAnyH_take (i := 2) (oi := { dst := some 173, op := Op.binOp BinOp.sub 3 (Operand.tmp 172) (Operand.const (Value.int IntKind.i64 1)) 3, type := 3, pos := "law.go:191", after := #[{ on := 1, ground := Ground.data }], guard := none }) (v := .int .i64 (i : Int)) rfl (by kernel_rfl) (by kernel_rfl) (by kernel_rfl) (fun _ _ _ h => h) (Or.inl ⟨by rfl, fun w hSw => by go_simp⟩) (by assumption) ?_
                try simp only [Act.put, List.setIfInBounds_toArray, List.set_cons_zero, List.set_cons_succ]
                refine wpAnyH_take (i := 3) (oi := { dst := some 174, op := Op.indexAddr 48 (Operand.tmp 171) (Operand.tmp 173), type := 0, pos := "law.go:191", after := #[{ on := 0, ground := Ground.data }, { on := 2, ground := Ground.data }], guard := none }) (v := .pointer (some ⟨rb, i * 5, none⟩)) rfl (by kernel_rfl) (by kernel_rfl) (by kernel_rfl) (fun _ _ _ h => h) (Or.inl ⟨by rfl, fun w hSw => by go_simp⟩) (by assumption) ?_
                try simp only [Act.put, List.setIfInBounds_toArray, List.set_cons_zero, List.set_cons_succ]
                refine wpAnyH_take (i := 4) (oi := { dst := some 175, op := Op.fieldAddr 53 (Operand.tmp 174) 0, type := 0, pos := "law.go:191", after := #[{ on := 3, ground := Ground.data }], guard := none }) (v := .pointer (some ⟨rb, i * 5, none⟩)) rfl (by kernel_rfl) (by kernel_rfl) (by kernel_rfl) (fun _ _ _ h => h) (Or.inl ⟨by rfl, fun w hSw => by go_simp⟩) (by assumption) ?_
                try simp only [Act.put, List.setIfInBounds_toArray, List.set_cons_zero, List.set_cons_succ]
                refine wpAnyH_take (i := 5) (oi := { dst := some 176, op := Op.load 39 (Operand.tmp 175), type := 39, pos := "law.go:191", after := #[{ on := 4, ground := Ground.data }], guard := none }) (v := .agg #[.int .u32 (r.a : Int), .int .u8 (r.n : Int)]) rfl (by kernel_rfl) (by kernel_rfl) (by kernel_rfl) (fun _ _ _ h => h) (Or.inl ⟨by rfl, fun w hSw => by obtain ⟨k0, k1, k2, k3, k4⟩ := HR1.out _ hSw; go_simp⟩) (by assumption) ?_
                try simp only [Act.put, List.setIfInBounds_toArray, List.set_cons_zero, List.set_cons_succ]
                refine wpAnyH_take (i := 6) (oi := { dst := some 177, op := Op.move (Operand.tmp 9), type := 48, pos := "law.go:191", after := #[], guard := none }) (v := .slice (some ⟨rb, 0, none⟩) nr cr) rfl (by kernel_rfl) (by kernel_rfl) (by kernel_rfl) (fun _ _ _ h => h) (Or.inl ⟨by rfl, fun w hSw => by go_simp⟩) (by assumption) ?_
                try simp only [Act.put, List.setIfInBounds_toArray, List.set_cons_zero, List.set_cons_succ]
                refine wpAnyH_take (i := 7) (oi := { dst := some 178, op := Op.move (Operand.tmp 20), type := 3, pos := "law.go:191", after := #[], guard := none }) (v := .int .i64 (j : Int)) rfl (by kernel_rfl) (by kernel_rfl) (by kernel_rfl) (fun _ _ _ h => h) (Or.inl ⟨by rfl, fun w hSw => by go_simp⟩) (by assumption) ?_
                try simp only [Act.put, List.setIfInBounds_toArray, List.set_cons_zero, List.set_cons_succ]
                refine wpAnyH_take (i := 8) (oi := { dst := some 179, op := Op.indexAddr 48 (Operand.tmp 177) (Operand.tmp 178), type := 0, pos := "law.go:191", after := #[{ on := 6, ground := Ground.data }, { on := 7, ground := Ground.data }], guard := none }) (v := .pointer (some ⟨rb, j * 5, none⟩)) rfl (by kernel_rfl) (by kernel_rfl) (by kernel_rfl) (fun _ _ _ h => h) (Or.inl ⟨by rfl, fun w hSw => by go_simp⟩) (by assumption) ?_
                try simp only [Act.put, List.setIfInBounds_toArray, List.set_cons_zero, List.set_cons_succ]
                refine wpAnyH_take (i := 9) (oi := { dst := some 180, op := Op.fieldAddr 53 (Operand.tmp 179) 0, type := 0, pos := "law.go:191", after := #[{ on := 8, ground := Ground.data }], guard := none }) (v := .pointer (some ⟨rb, j * 5, none⟩)) rfl (by kernel_rfl) (by kernel_rfl) (by kernel_rfl) (fun _ _ _ h => h) (Or.inl ⟨by rfl, fun w hSw => by go_simp⟩) (by assumption) ?_
                try simp only [Act.put, List.setIfInBounds_toArray, List.set_cons_zero, List.set_cons_succ]
                refine wpAnyH_take (i := 10) (oi := { dst := some 181, op := Op.load 39 (Operand.tmp 180), type := 39, pos := "law.go:191", after := #[{ on := 9, ground := Ground.data }], guard := none }) (v := .agg #[.int .u32 (r2.a : Int), .int .u8 (r2.n : Int)]) rfl (by kernel_rfl) (by kernel_rfl) (by kernel_rfl) (fun _ _ _ h => h) (Or.inl ⟨by rfl, fun w hSw => by obtain ⟨k0, k1, k2, k3, k4⟩ := HR2.out _ hSw; go_simp⟩) (by assumption) ?_
                try simp only [Act.put, List.setIfInBounds_toArray, List.set_cons_zero, List.set_cons_succ]
                refine wpAnyH_ready (rs := [11]) (by kernel_rfl) (by simp) ?_
                refine AllReadyH.cons (o := { dst := some 182, op := Op.call { callee := Callee.value (Operand.func 13), args := #[Operand.tmp 176, Operand.tmp 181], argTypes := #[39, 39] }, type := 4, pos := "law.go:191", after := #[{ on := 5, ground := Ground.data }, { on := 10, ground := Ground.data }], guard := none }) rfl (fun K hK => ?_) AllReadyH.nil
                go_simp
                with_reducible refine (HAH.out _).mono ?_
                rintro en wn ⟨rfl, hB⟩
                have hS2 := hHeld.trans (hB.mono hHeld.size)
                refine hK.out _ _ (hS2) (fun hHeld2 => ?_)
                clear hK K hHeld
                have hHeld := hHeld2
                clear hHeld2
                try simp only [Act.put, List.setIfInBounds_toArray, List.set_cons_zero, List.set_cons_succ]
                clear hB hS2 wd
                generalize wn = wd at *
                refine wpAnyH_take (i := 12) (oi := { dst := some 183, op := Op.unOp UnOp.not 4 (Operand.tmp 182), type := 4, pos := "law.go:191", after := #[{ on := 11, ground := Ground.data }], guard := none }) (v := .bool false) rfl (by kernel_rfl) (by kernel_rfl) (by kernel_rfl) (fun _ _ _ h => h) (Or.inl ⟨by rfl, fun w hSw => by go_simp⟩) (by assumption) ?_
                try simp only [Act.put, List.setIfInBounds_toArray, List.set_cons_zero, List.set_cons_succ]
                refine wpAnyH_done (by kernel_rfl) ?_ _
                try unfold NoPanic
                have HF := Lib.hid (HQ.out.trans (hHeld.mono HQ.out.size))
                clear hHeld
                go_wp2
                go_roundw
                case rel => exact ⟨j + 1, by omega, by omega, by go_num, HF.out⟩
                case measure => simp [intOf]; omega
              · have HEND := Lib.hid (HQ6.out.step HQ.out)
                go_wp2
                go_ret
                exact ⟨by simp, HEND.out.b⟩
  · go_enter Try.func4, Try.ntmps4
    by_cases h8 : len0 ≤ 80
    · have hl80 : ¬ (80 : Int) < (len0 : Int) := by omega
      have hl30 : (30 : Int) < (len1 : Int) := by omega
      clear h80
      go_wp2_with (first
        | (go_at_call 8; (with_reducible refine (HAW.out w).mono ?_); rintro en w1 ⟨rfl, B1⟩; have H1 := Lib.hid B1; clear B1)
        | (go_at_call 8; (with_reducible refine (HAW.out w1).mono ?_); rintro en w2 ⟨rfl, B2⟩; have H2 := Lib.hid (H1.out.trans (B2.mono H1.out.size)); clear B2))
      go_ret
      exact ⟨rfl, H2.out⟩
    · have hl80 : (80 : Int) < (len0 : Int) := by omega
      clear h80
      go_wp2_with (first
        | (go_at_call 8; (with_reducible refine (HAW.out w).mono ?_); rintro en w1 ⟨rfl, B1⟩; have H1 := Lib.hid B1; clear B1)
        | (go_at_call 8; (with_reducible refine (HAW.out w1).mono ?_); rintro en w2 ⟨rfl, B2⟩; have H2 := Lib.hid (H1.out.trans (B2.mono H1.out.size)); clear B2))
      go_ret
      exact ⟨rfl, H2.out⟩

set_option maxRecDepth 100000 in
theorem lifted (os : Os) (started : os.Started) (H : Type) (enc : TypeId × Value → H) :
    ReturnsInHanded {} Try.checked os 4 .any (Rows.routesSelectSpec.pre6 enc Try.prog Try.f4 Rows.routesSelectRow.domain false) (Rows.routesSelectSpec.post enc Try.prog Try.f4 false true false false) := by
  refine returnsInHanded_of_change (C := Try.checked) own started (by kernel_rfl) Try.func4
    (ChangeSpec.witness6 (enc := enc) (C := Try.checked) false ⟨#[], #[.slice none 0 0, .slice none 0 0], []⟩ 8 (by kernel_rfl) (by kernel_rfl) (by kernel_rfl) (by kernel_rfl)) ?_
  intro W base args ds gs before hval0 hW hcnd _
  have hval : ∀ (j : Nat) t v, Try.f4.params[j]? = some t → args[j]? = some v → Value.okWide Try.prog W .any base t v := hval0
  have hW' := hW
  obtain ⟨p, q, hA0, hV, rfl, hfz, hnd⟩ := hW
  have hA : DataW.TrodAll enc Try.prog W 0 (fun _ => true) true Try.f4.params.toList args.toList ds p := hA0
  rw [Try.params4] at hA hval
  obtain ⟨v0, vs0, d0, ds0, p0, q0, hargs, rfl, rfl, h0, r0⟩ := trodAll_cons hA
  obtain ⟨v1, vs1, d1, ds1, p1, q1, rfl, rfl, rfl, h1, r1⟩ := trodAll_cons r0
  obtain ⟨rfl, rfl, rfl⟩ := trodAll_nil r1
  obtain rfl : args = #[v0, v1] := by cases args; simp_all
  obtain ⟨rfl, rfl⟩ := trodVars_none hV
  obtain ⟨a0, len0, cap0, rfl⟩ := okWide_slice Try.underlying22 (hval 0 22 v0 rfl rfl)
  have k0 := h0
  have lt0 : ∀ x ∈ p0, x.block < W.heap.size := by obtain ⟨m, hm⟩ := k0; exact DataW.trod_lt m _ _ _ hm
  obtain ⟨z0, w0⟩ : ∃ zs, IsActs W a0 len0 cap0 zs := by
    obtain ⟨fuel, hf⟩ := h0
    obtain ⟨a, l, c, ds, hcs, hds⟩ := acts_of hf
    simp [Value.cells] at hcs
    obtain ⟨rfl, rfl, rfl⟩ := hcs
    exact ⟨ds, hds⟩
  obtain ⟨a1, len1, cap1, rfl⟩ := okWide_slice Try.underlying22 (hval 1 22 v1 rfl rfl)
  have k1 := h1
  have lt1 : ∀ x ∈ p1, x.block < W.heap.size := by obtain ⟨m, hm⟩ := k1; exact DataW.trod_lt m _ _ _ hm
  obtain ⟨z1, w1⟩ : ∃ zs, IsActs W a1 len1 cap1 zs := by
    obtain ⟨fuel, hf⟩ := h1
    obtain ⟨a, l, c, ds, hcs, hds⟩ := acts_of hf
    simp [Value.cells] at hcs
    obtain ⟨rfl, rfl, rfl⟩ := hcs
    exact ⟨ds, hds⟩
  clear hA0 hval0
  refine (walk a0 len0 cap0 z0 a1 len1 cap1 z1 W w0 w1).mono fun e W' ⟨he, bel⟩ => ?_
  subst he
  exact ⟨_, rfl, _, _, _, [], _, [], hW', trodAll_mk1 (shut_bool Try.underlying4 _), (trodAll_cons_mk (Below.trod laidOut (by kernel_rfl) (of_decide_eq_true (by kernel_rfl)) k0 bel lt0) (trodAll_cons_mk (Below.trod laidOut (by kernel_rfl) (of_decide_eq_true (by kernel_rfl)) k1 bel lt1) trodAll_mk0)), rfl, bel.frame _, fun h => by cases h⟩

theorem over : Rows.routesSelectRow.holds Try.pinned (OpenSpec.ofChange Rows.routesSelectSpec) :=
  OpenClaim.holds_of_wide 4 Try.f4 rfl rfl rfl rfl rfl rfl rfl ⟨rfl, rfl, rfl, rfl, rfl⟩ rfl rfl rfl rfl rfl (by kernel_rfl) Try.func4 (by kernel_rfl)
    (of_decide_eq_true (by kernel_rfl)) (by unfold Func.isWrapper; first | (rw [if_pos (by decide +kernel)]; kernel_rfl) | (rw [if_neg (by decide +kernel)]; exact ⟨rfl, rfl⟩))
    (fun os started H enc _ => lifted os started H enc)

theorem proved : Rows.RoutesSelectSaid := over
#print axioms proved
end Go.Proofs.Ytkbhmdoichiinaa.routesSelect
