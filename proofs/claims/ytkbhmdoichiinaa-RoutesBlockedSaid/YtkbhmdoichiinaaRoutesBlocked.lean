/-
  'For every input the Go function milestonelaw16.RoutesBlocked returns true, and each argument reads behind the call as it read before.'
  Conditions: none but the row's own (linux/amd64, sizes of what is read within the address space).
-/
import Derived.Test.YtkbhmdoichiinaaRows
import Derived.WalkKit
import Derived.ProofKit
import Derived.OpenShut
import Derived.ShutString
import Derived.ChangeOld
import Derived.Below
import Derived.Lib.SmallJoins
import Derived.Lib.Hide
import Derived.Test.YtkbhmdoichiinaaSI
namespace Go.Proofs.Ytkbhmdoichiinaa.routesBlocked
open Pre
open Ser
open Rts
open Go.ChangeShapes Go.WideShapes Go.ChangeAt Go.RowKit
open Go.ChangeMaps (open_string shut_string)
set_option linter.unusedVariables false
set_option maxRecDepth 8000
open Go.Proofs.Ytkbhmdoichiinaa.Src (row1 row2 Mk SrcAt pA pN)

theorem own : ownKnob Try.prog.godebug = none := by kernel_rfl
theorem laidOut : laidOutB Try.prog = true := by kernel_rfl

set_option maxHeartbeats 16000000 in
theorem walk (a0 : Option Addr) (len0 cap0 : Nat) (z0 : List ActD) (a1 : Option Addr) (len1 cap1 : Nat) (z1 : List ActD) (w : World) (w0 : IsActs w a0 len0 cap0 z0) (w1 : IsActs w a1 len1 cap1 z1) :
    Calls Try.prog 5 #[.slice a0 len0 cap0, .slice a1 len1 cap1] w fun e w' => e = .returned (.bool true) ∧ Below w.heap.size w w' := by
  have HAW : Hid (∀ W, Calls Try.prog 8 #[] W fun e w' => e = .returned (.bool true) ∧ Below W.heap.size W w') := Lib.hid awake_any
  have HY := Lib.hid w0
  have HY1 := Lib.hid w1
  clear w0 w1
  by_cases h80 : len0 ≤ 80 ∧ len1 ≤ 30
  · obtain ⟨h80, h30⟩ := h80
    have hl80 : ¬ (80 : Int) < (len0 : Int) := by omega
    have hl30 : ¬ (30 : Int) < (len1 : Int) := by omega
    go_enter Try.func5, Try.ntmps5
    go_wp2_with (first
      | (go_at_call 8; (with_reducible refine (HAW.out _).mono ?_); rintro en w1 ⟨rfl, B1⟩; have H1 := Lib.hid B1; clear B1)
      | (go_at_call 9; (with_reducible refine (new_any _).mono ?_); rintro en w2 ⟨rfl, R2, B2⟩; have HQ0 := Lib.hid (And.intro (H1.out.trans (B2.mono H1.out.size)) (rts_low' R2 H1.out.size)); clear R2 B2))
    have HP0 : Hid (LW w (w2.alloc (.cells #[.slice none 0 0, .int .u64 0] 29)) w1.heap.size w2.heap.size [] (.slice none 0 0) (.slice none 0 0) [] 0) := Lib.hid (LW.mk (HQ0.out.1.alloc HQ0.out.1.size _) (PL.start (HQ0.out.2.kept ((Below.refl _ _).alloc (Nat.le_refl _) _))) (heap_alloc_new w2 _) HQ0.out.1.size)
    clear HQ0 H1
    generalize w2.alloc _ = w3 at *
    generalize w1.heap.size = q at *
    generalize w2.heap.size = g at *
    go_loopw [7] (fun iv wr => ∃ k : Nat, k ≤ len0 ∧ iv = .int .i64 k ∧ ∃ (L l : List E) (v : Value) (A : Option Addr) (c now : Nat), Hid (LW w wr q g L v (.slice A l.length c) l now) ∧ Hid (Inv L l now ∧ l.length ≤ k ∧ now ≤ 40 * k)) (fun iv _ => len0 - (intOf iv).toNat)
    case atStart => exact ⟨0, Nat.zero_le _, rfl, [], [], _, none, 0, 0, HP0.out, Inv.nil 0, Nat.le_refl _, Nat.le_refl _⟩
    case round =>
      obtain ⟨k, hk, rfl, L, l, v, A, c, now, HP, HI⟩ := hrel
      clear HP0
      by_cases hlt : k < len0
      · have hkz : k < z0.length := by rw [← HY.out.1]; exact hlt
        obtain ⟨b0, o0, rfl, hb0, hA0⟩ := HY.out.at' (Below.refl _ _) k hkz
        have HDO := Lib.hid hA0.ok
        have HAC : Hid (∀ W, Below w.heap.size w W → AAt W b0 (o0 + k * 5) z0[k]) := Lib.hid fun W hW => by
          obtain ⟨b1, o1, e1, -, h1⟩ := HY.out.at' hW k hkz
          injection e1 with e1; injection e1 with e1 e2 _
          subst e1 e2
          exact h1
        generalize z0[k] = d at *
        clear hA0
        go_upto_region 8 with (fail)
        have HPd := Lib.hid (HP.out.step ((Below.refl wr.heap.size wr).drew))
        refine wp_region_noPanic ?_
        refine wp_region_held_drew (S := fun y : World => Below w.heap.size w y) (by kernel_rfl) HPd.out.b (fun hHeld => ?_)
        generalize wr.drew = wd at *
        refine wpAnyH_take (i := 0) (oi := { dst := some 41, op := Op.move (Operand.tmp 5), type := 24, pos := "law.go:216", after := #[], guard := none }) (v := .pointer (some ⟨q, 0, none⟩)) rfl (by kernel_rfl) (by kernel_rfl) (by kernel_rfl) (fun _ _ _ h => h) (Or.inl ⟨by rfl, fun w hSw => by go_simp⟩) (by assumption) ?_
        try simp only [Act.put, List.setIfInBounds_toArray, List.set_cons_zero, List.set_cons_succ]
        refine wpAnyH_take (i := 2) (oi := { dst := some 43, op := Op.move (Operand.tmp 0), type := 22, pos := "law.go:216", after := #[], guard := none }) (v := .slice (some ⟨b0, o0, none⟩) len0 cap0) rfl (by kernel_rfl) (by kernel_rfl) (by kernel_rfl) (fun _ _ _ h => h) (Or.inl ⟨by rfl, fun w hSw => by go_simp⟩) (by assumption) ?_
        try simp only [Act.put, List.setIfInBounds_toArray, List.set_cons_zero, List.set_cons_succ]
        refine wpAnyH_take (i := 3) (oi := { dst := some 44, op := Op.move (Operand.tmp 7), type := 3, pos := "law.go:216", after := #[], guard := none }) (v := .int .i64 (k : Int)) rfl (by kernel_rfl) (by kernel_rfl) (by kernel_rfl) (fun _ _ _ h => h) (Or.inl ⟨by rfl, fun w hSw => by go_simp⟩) (by assumption) ?_
        try simp only [Act.put, List.setIfInBounds_toArray, List.set_cons_zero, List.set_cons_succ]
        refine wpAnyH_take (i := 4) (oi := { dst := some 45, op := Op.indexAddr 22 (Operand.tmp 43) (Operand.tmp 44), type := 0, pos := "law.go:216", after := #[{ on := 2, ground := Ground.data }, { on := 3, ground := Ground.data }], guard := none }) (v := .pointer (some ⟨b0, o0 + k * 5, none⟩)) rfl (by kernel_rfl) (by kernel_rfl) (by kernel_rfl) (fun _ _ _ h => h) (Or.inl ⟨by rfl, fun w hSw => by go_simp⟩) (by assumption) ?_
        try simp only [Act.put, List.setIfInBounds_toArray, List.set_cons_zero, List.set_cons_succ]
        refine wpAnyH_take (i := 5) (oi := { dst := some 46, op := Op.load 34 (Operand.tmp 45), type := 34, pos := "law.go:216", after := #[{ on := 4, ground := Ground.data }], guard := none }) (v := .agg #[.int .u8 (d.K : Int), .int .u8 (d.B : Int), .int .u8 (d.P : Int), .int .u8 (d.Q : Int), .int .u16 (d.M : Int)]) rfl (by kernel_rfl) (by kernel_rfl) (by kernel_rfl) (fun _ _ _ h => h) (Or.inl ⟨by rfl, fun w hSw => by obtain ⟨k0, k1, k2, k3, k4, -⟩ := HAC.out _ hSw; go_simp⟩) (by assumption) ?_
        try simp only [Act.put, List.setIfInBounds_toArray, List.set_cons_zero, List.set_cons_succ]
        refine wpAnyH_ready (rs := [1]) (by kernel_rfl) (by simp) ?_
        refine (AllReadyH.cons (o := { dst := some 42, op := Op.load 29 (Operand.tmp 6), type := 29, pos := "law.go:216", after := #[], guard := none }) rfl (fun K hK => ?_) AllReadyH.nil)
        obtain ⟨t0, t1, -⟩ := row2 HPd.out.t
        go_simp
        have hS2 := hHeld
        refine hK.out _ _ hS2 (fun hHeld2 => ?_)
        clear hK K hHeld hS2
        have hHeld := hHeld2
        clear hHeld2
        try simp only [Act.put, List.setIfInBounds_toArray, List.set_cons_zero, List.set_cons_succ]
        clear t0 t1
        refine wpAnyH_ready (rs := [6]) (by kernel_rfl) (by simp) ?_
        refine (AllReadyH.cons (o := { dst := some 47, op := Op.call { callee := Callee.value (Operand.func 10), args := #[Operand.tmp 41, Operand.tmp 42, Operand.tmp 46], argTypes := #[24, 29, 34] }, type := 30, pos := "law.go:216", after := #[{ on := 0, ground := Ground.data }, { on := 1, ground := Ground.data }, { on := 5, ground := Ground.data }], guard := none }) rfl (fun K hK => ?_) AllReadyH.nil)
        go_simp
        with_reducible refine (do_any wd w.heap.size q v L l A c l.length now d rfl HPd.out.p HI.out.1 (by have := HI.out.2.1; omega) HDO.out (by have := HI.out.2.2; omega)).mono ?_
        rintro en wn ⟨v5, A5, c5, rfl, P5, F5, -⟩
        have HF := Lib.hid (HPd.out.fr (w' := wn) P5 F5)
        have HD := Lib.hid (HPd.out.done (now' := d.time now) P5 F5)
        have hS2 := HF.out.1
        clear P5 F5
        refine hK.out _ _ hS2 (fun hHeld2 => ?_)
        clear hK K hHeld hS2
        have hHeld := hHeld2
        clear hHeld2
        try simp only [Act.put, List.setIfInBounds_toArray, List.set_cons_zero, List.set_cons_succ]
        refine wpAnyH_take (i := 7) (oi := { dst := some 40, op := Op.move (Operand.tmp 47), type := 30, pos := "law.go:216", after := #[{ on := 6, ground := Ground.data }], guard := none }) (v := .tuple #[.agg #[.slice A5 (d.lst now l).length c5, .int .u64 (d.time now : Int)], .bool true]) rfl (by kernel_rfl) (by kernel_rfl) (by kernel_rfl) (fun _ _ _ h => h) (Or.inl ⟨by rfl, fun w hSw => by go_simp⟩) (by assumption) ?_
        try simp only [Act.put, List.setIfInBounds_toArray, List.set_cons_zero, List.set_cons_succ]
        refine wpAnyH_take (i := 8) (oi := { dst := some 48, op := Op.extract (Operand.tmp 40) 0, type := 29, pos := "law.go:216", after := #[{ on := 7, ground := Ground.data }], guard := none }) (v := .agg #[.slice A5 (d.lst now l).length c5, .int .u64 (d.time now : Int)]) rfl (by kernel_rfl) (by kernel_rfl) (by kernel_rfl) (fun _ _ _ h => h) (Or.inl ⟨by rfl, fun w hSw => by go_simp⟩) (by assumption) ?_
        try simp only [Act.put, List.setIfInBounds_toArray, List.set_cons_zero, List.set_cons_succ]
        refine wpAnyH_take (i := 9) (oi := { dst := some 49, op := Op.extract (Operand.tmp 40) 1, type := 4, pos := "law.go:216", after := #[{ on := 7, ground := Ground.data }, { on := 10, ground := Ground.gcOnly Departure.lateStores }], guard := none }) (v := .bool true) rfl (by kernel_rfl) (by kernel_rfl) (by kernel_rfl) (fun _ _ _ h => h) (Or.inl ⟨by rfl, fun w hSw => by go_simp⟩) (by assumption) ?_
        try simp only [Act.put, List.setIfInBounds_toArray, List.set_cons_zero, List.set_cons_succ]
        refine wpAnyH_ready (rs := [10]) (by kernel_rfl) (by simp) ?_
        refine (AllReadyH.cons (o := { dst := none, op := Op.store 29 (Operand.tmp 6) (Operand.tmp 48), type := 0, pos := "law.go:216", after := #[{ on := 8, ground := Ground.data }, { on := 6, ground := Ground.chain }, { on := 0, ground := Ground.phase }, { on := 1, ground := Ground.phase }, { on := 2, ground := Ground.phase }, { on := 3, ground := Ground.phase }, { on := 4, ground := Ground.phase }, { on := 5, ground := Ground.phase }, { on := 6, ground := Ground.phase }, { on := 7, ground := Ground.phase }, { on := 8, ground := Ground.phase }, { on := 9, ground := Ground.textOnly Departure.lateStores }], guard := none }) rfl (fun K hK => ?_) AllReadyH.nil)
        obtain ⟨t0, t1, tf⟩ := row2 HF.out.2
        have hgl : g < wn.heap.size := (Array.getElem?_eq_some_iff.1 HF.out.2).1
        go_simp
        have hS2 := HD.out.b
        clear t0 t1 tf hgl
        generalize (wn.setCell _ _).setCell _ _ = wk at *
        refine hK.out _ _ hS2 (fun hHeld2 => ?_)
        clear hK K hHeld hS2
        have hHeld := hHeld2
        clear hHeld2
        try simp only [Act.put, List.setIfInBounds_toArray, List.set_cons_zero, List.set_cons_succ]
        refine wpAnyH_done (by kernel_rfl) ?_ _
        try unfold NoPanic
        clear hHeld HF
        have HIN := Lib.hid (ActD.inv HDO.out HI.out.1 (by have := HI.out.2.2; omega))
        have HTL := Lib.hid (ActD.time_le (d := d) now)
        go_wp2
        go_roundw
        case rel => exact ⟨k + 1, by omega, by go_num, _, _, v5, A5, c5, _, HD.out, HIN.out.1, by have := HIN.out.2; have := HI.out.2.1; omega, by have := HTL.out; have := HI.out.2.2; omega⟩
        case measure => simp [intOf]; omega
      · obtain rfl : k = len0 := by omega
        go_upto_region 11 with (first
          | (go_at_call 14; (with_reducible refine (lowered_any _ a1 len1 cap1 z1 (HY1.out.step HP.out.b) h30).mono ?_); rintro en w4 ⟨qs, f, cs, rfl, S4, B4, hc4, h44⟩; have HS4 := Lib.hid (And.intro S4 (And.intro (HP.out.step B4) (And.intro hc4 (And.intro h44 HP.out.b)))); clear S4 B4 hc4 h44)
          | (go_at_call 21; (with_reducible refine (blocked_any w4 w.heap.size q v L HS4.out.2.1.p.r HI.out.1.up HI.out.1.ok (by have := HI.out.1.len; have := HI.out.2.1; omega) wr.heap.size qs cs f HS4.out.1).mono ?_); rintro en w6 ⟨v6, bs, rfl, K6, O6, B6, hr6⟩; obtain ⟨Ar, cr, hv6, hro⟩ := O6.ps; obtain ⟨nb, hnb⟩ : ∃ nb, nb = bs.length := ⟨_, rfl⟩; rw [← hnb] at hv6; have HS6 := Lib.hid (And.intro K6 (And.intro hro (And.intro (HS4.out.1.below B6) (And.intro (HS4.out.2.1.step B6) (And.intro hnb hr6))))); subst hv6; clear K6 O6 B6 hr6 hro hnb))
        obtain ⟨lo, hlo⟩ : ∃ lo, lo = wr.heap.size := ⟨_, rfl⟩
        have HSR : Hid (SrcAt lo w6 qs f cs) := Lib.hid (by rw [hlo]; exact HS6.out.2.2.1)
        clear hlo
        have HNB := Lib.hid HS6.out.2.2.2.2
        have hnb9 : nb ≤ 900 := by have h1 := HNB.out; have := HI.out.1.len; have := HI.out.2.1; omega
        have HCNT := Lib.hid (HS6.out.1.count HI.out.1)
        go_wp2
        go_loopw [10, 11] (fun nv iv wt => ∃ k : Nat, k ≤ 18 ∧ nv = .int .i64 (cntB bs k : Nat) ∧ iv = .int .i64 k ∧ Hid (Below w6.heap.size w6 wt)) (fun _ iv _ => 18 - (intOf iv).toNat)
        case atStart => exact ⟨0, Nat.zero_le _, rfl, rfl, Below.refl _ _⟩
        case round =>
          obtain ⟨k, hk, rfl, rfl, HQ⟩ := hrel
          clear HP HS4
          by_cases hlt2 : k < 18
          · obtain ⟨cn, hcn⟩ : ∃ cn, cn = cntB bs k := ⟨_, rfl⟩
            have hcn18 : cn ≤ 18 := by rw [hcn]; exact Nat.le_trans (cntB_le _ _) hk
            have HCS := Lib.hid (cntB_succ bs k)
            rw [← hcn] at HCS ⊢
            have hw8 : IntKind.u8.wrap (k : Int) = (k : Int) := by rw [IntKind.wrap_u8]; omega
            obtain ⟨a, ha⟩ : ∃ a, a = pA k := ⟨_, rfl⟩
            obtain ⟨n, hn⟩ : ∃ n, n = pN k := ⟨_, rfl⟩
            obtain ⟨F, hF⟩ : ∃ F, F = Src.fk k := ⟨_, rfl⟩
            have hF18 : F < 18 := by rw [hF]; exact Src.fk_lt k
            have CP : Hid (∀ W, Calls Try.prog 17 #[.int .u8 (k : Int)] W fun e w' => e = .returned (.agg #[.int .u32 (a : Int), .int .u8 (n : Int)]) ∧ Below W.heap.size W w') := Lib.hid fun W => by rw [ha, hn]; exact Src.prefix_n k (by omega) W
            have CF : Hid (∀ W, Calls Try.prog 18 #[.agg #[.int .u32 (a : Int), .int .u8 (n : Int)]] W fun e w' => e = .returned (.int .i64 (F : Int)) ∧ Below W.heap.size W w') := Lib.hid fun W => by rw [ha, hn, hF]; exact Src.first_n k W
            have HAL : Hid (a < 4294967296 ∧ n < 256) := Lib.hid ⟨by rw [ha]; exact Src.pA_lt k, by rw [hn]; have := Src.pN_le k; omega⟩
            rw [← hF, ← ha, ← hn] at HCS
            clear hF ha hn hcn
            go_upto_region 16 with (first
              | (go_at_call 17; (with_reducible refine (CP.out _).mono ?_); rintro en w7 ⟨rfl, B7⟩; have H7 := Lib.hid (HQ.out.trans (B7.mono HQ.out.size)); clear B7))
            have HB8 := Lib.hid (H7.out.alloc H7.out.size (.cells #[.int .u32 (a : Int), .int .u8 (n : Int)] 39))
            have HPB8 := Lib.hid (heap_alloc_new w7 (.cells #[.int .u32 (a : Int), .int .u8 (n : Int)] 39))
            clear H7 CP HQ
            generalize w7.alloc _ = w8 at *
            generalize w7.heap.size = pb at *
            obtain ⟨p0, p1, -⟩ := row2 HPB8.out
            by_cases hFk : F = k
            · subst hFk
              go_upto_region 19 with (first
                | (go_at_call 18; clear p0 p1; (with_reducible refine (CF.out _).mono ?_); rintro en w9 ⟨rfl, B9⟩; have HB9 := Lib.hid (HB8.out.trans (B9.mono HB8.out.size)); have HPB9 := Lib.hid (brow B9 HPB8.out); clear B9))
              clear CF HPB8 HB8
              have HQ9 := Lib.hid (HS6.out.2.2.2.1.step HB9.out)
              have HS9 := Lib.hid (HSR.out.below HB9.out)
              go_wp2
              go_loopw [13, 14, 15] (fun hv fv bv wt => ∃ b : Nat, b ≤ 8 ∧ hv = .bool (anyB L (fun _ => true) a n b) ∧ fv = .bool (anyB L (feasE f) a n b) ∧ bv = .int .i64 b ∧ Hid (Below w9.heap.size w9 wt)) (fun _ _ bv _ => 8 - (intOf bv).toNat)
              case atStart => exact ⟨0, Nat.zero_le _, by rw [anyB_zero], by rw [anyB_zero], rfl, Below.refl _ _⟩
              case round =>
                obtain ⟨b, hb, rfl, rfl, rfl, HB5⟩ := hrel
                have HT5 := Lib.hid (brow HB5.out HQ9.out.t)
                have HPB5 := Lib.hid (brow HB5.out HPB9.out)
                obtain ⟨hz, hhz⟩ : ∃ hz, hz = anyB L (fun _ => true) a n b := ⟨_, rfl⟩
                obtain ⟨fb, hfb⟩ : ∃ fb, fb = anyB L (feasE f) a n b := ⟨_, rfl⟩
                by_cases hlt3 : b < 8
                · rw [← hhz, ← hfb]
                  rcases HI.out.1.look a n b with ⟨e, heL, hea, hen, heb, fi, hfl, hfe, hix⟩ | ⟨hix, hno⟩
                  · obtain ⟨fz, hfz⟩ : ∃ fz, fz = feasE f e := ⟨_, rfl⟩
                    have HH1 : Hid (anyB L (fun _ => true) a n (b + 1) = true) := Lib.hid (by rw [← hea, ← hen, ← heb, anyB_hit HI.out.1 _ heL, Bool.or_true])
                    have HF1 : Hid (anyB L (feasE f) a n (b + 1) = (fb || fz)) := Lib.hid (by rw [hfb, hfz, ← hea, ← hen, ← heb, anyB_hit HI.out.1 _ heL])
                    obtain ⟨lb, lo2, rfl, hlb, hEL⟩ := (HQ9.out.step HB5.out).esl.2 fi hfl
                    rw [hfe] at hEL
                    have HFI : Hid (∀ W, Below wr.heap.size wr W → Calls Try.prog 12 #[.agg #[.slice (some ⟨lb, lo2, none⟩) l.length c, .int .u64 (now : Int)], .agg #[.int .u32 (a : Int), .int .u8 (n : Int)], .int .i64 (b : Int)] W fun en w' => en = .returned (.int .i64 (fi : Int)) ∧ Below W.heap.size W w') := Lib.hid fun W hW => by
                      have := lfind_any W (some ⟨lb, lo2, none⟩) l.length c now l rfl (by have := HI.out.2.1; omega) (((HQ9.out.step HB5.out).step hW).esl.2) a n b
                      rw [hix] at this
                      exact this
                    have HFE0 : Hid (∀ W, Below w9.heap.size w9 W → Calls Try.prog 20 #[.pointer (some ⟨qs, 0, none⟩), .agg #[.int .u32 (a : Int), .int .u8 (n : Int)], .agg #[.int .u16 (e.s : Int), .int .u16 (e.m : Int)]] W fun en w' => en = .returned (.bool fz) ∧ Below W.heap.size W w') := Lib.hid fun W hW => by
                      have := Src.feas_any W qs f cs (HS9.out.below hW) a n HAL.out.1 HAL.out.2 (e.s, e.m)
                      rw [show f.feas a n (e.s, e.m) = fz by rw [hfz, ← hea, ← hen]; rfl] at this
                      exact this
                    have HEL5 := Lib.hid (And.intro hlb hEL)
                    have hfi2 : (fi : Int) < (l.length : Int) := by omega
                    have hfi3 : (0 : Int) ≤ (fi : Int) := by omega
                    clear heL hea hen heb hfl hfe hix hfz hhz hfb hlb hEL
                    obtain ⟨t0, t1, -⟩ := row2 HT5.out
                    obtain ⟨p0, p1, -⟩ := row2 HPB5.out
                    go_upto_region 25 with (first
                      | (go_at_call 12; clear t0 t1 p0 p1; (with_reducible refine (HFI.out _ (Below.refl _ _)).mono ?_); rintro en w10 ⟨rfl, B10⟩; have H10 := Lib.hid B10; clear B10))
                    have HT := Lib.hid (brow H10.out HT5.out)
                    have HPB := Lib.hid (brow H10.out HPB5.out)
                    have HEL := Lib.hid (And.intro (Nat.lt_of_lt_of_le HEL5.out.1 H10.out.size) (HEL5.out.2.keep (H10.out.block lb HEL5.out.1)))
                    have HB10 := Lib.hid (HB5.out.trans (H10.out.mono HB5.out.size))
                    have HFE : Hid (∀ W, Below w10.heap.size w10 W → Calls Try.prog 20 #[.pointer (some ⟨qs, 0, none⟩), .agg #[.int .u32 (a : Int), .int .u8 (n : Int)], .agg #[.int .u16 (e.s : Int), .int .u16 (e.m : Int)]] W fun en w' => en = .returned (.bool fz) ∧ Below W.heap.size W w') := Lib.hid fun W hW => HFE0.out W (HB10.out.trans (hW.mono HB10.out.size))
                    clear HFE0 HFI HT5 HPB5 HEL5 H10 HB5
                    cases fb
                    · skip
                      refine wp_region_noPanic ?_
                      refine wp_region_held_drew (S := fun y : World => Below w10.heap.size w10 y) (by kernel_rfl) ((Below.refl _ _).drew) (fun hHeld => ?_)
                      generalize w10.drew = wd at *
                      refine wpAnyH_take (i := 0) (oi := { dst := some 76, op := Op.move (Operand.tmp 14), type := 4, pos := "law.go:231", after := #[], guard := none }) (v := .bool false) rfl (by kernel_rfl) (by kernel_rfl) (by kernel_rfl) (fun _ _ _ h => h) (Or.inl ⟨by rfl, fun w hSw => by go_simp⟩) (by assumption) ?_
                      try simp only [Act.put, List.setIfInBounds_toArray, List.set_cons_zero, List.set_cons_succ]
                      refine wpAnyH_take (i := 1) (oi := { dst := some 77, op := Op.move (Operand.tmp 76), type := 4, pos := "law.go:231", after := #[{ on := 0, ground := Ground.data }], guard := none }) (v := .bool false) rfl (by kernel_rfl) (by kernel_rfl) (by kernel_rfl) (fun _ _ _ h => h) (Or.inl ⟨by rfl, fun w hSw => by go_simp⟩) (by assumption) ?_
                      try simp only [Act.put, List.setIfInBounds_toArray, List.set_cons_zero, List.set_cons_succ]
                      refine wpAnyH_take (i := 2) (oi := { dst := some 78, op := Op.move (Operand.tmp 8), type := 46, pos := "law.go:231", after := #[{ on := 1, ground := Ground.guard }], guard := some (1, false) }) (v := .pointer (some ⟨qs, 0, none⟩)) rfl (by kernel_rfl) (by kernel_rfl) (by kernel_rfl) (fun _ _ _ h => h) (Or.inl ⟨by rfl, fun w hSw => by go_simp⟩) (by assumption) ?_
                      try simp only [Act.put, List.setIfInBounds_toArray, List.set_cons_zero, List.set_cons_succ]
                      refine wpAnyH_take (i := 3) (oi := { dst := some 79, op := Op.load 39 (Operand.tmp 12), type := 39, pos := "law.go:231", after := #[{ on := 1, ground := Ground.guard }], guard := some (1, false) }) (v := .agg #[.int .u32 (a : Int), .int .u8 (n : Int)]) rfl (by kernel_rfl) (by kernel_rfl) (by kernel_rfl) (fun _ _ _ h => h) (Or.inl ⟨by rfl, fun w hSw => by obtain ⟨p0, p1, -⟩ := row2 (brow hSw HPB.out); go_simp⟩) (by assumption) ?_
                      try simp only [Act.put, List.setIfInBounds_toArray, List.set_cons_zero, List.set_cons_succ]
                      refine wpAnyH_take (i := 4) (oi := { dst := some 80, op := Op.fieldAddr 29 (Operand.tmp 6) 0, type := 0, pos := "law.go:231", after := #[{ on := 1, ground := Ground.guard }], guard := some (1, false) }) (v := .pointer (some ⟨g, 0, none⟩)) rfl (by kernel_rfl) (by kernel_rfl) (by kernel_rfl) (fun _ _ _ h => h) (Or.inl ⟨by rfl, fun w hSw => by go_simp⟩) (by assumption) ?_
                      try simp only [Act.put, List.setIfInBounds_toArray, List.set_cons_zero, List.set_cons_succ]
                      refine wpAnyH_take (i := 5) (oi := { dst := some 81, op := Op.load 26 (Operand.tmp 80), type := 26, pos := "law.go:231", after := #[{ on := 4, ground := Ground.data }, { on := 1, ground := Ground.guard }], guard := some (1, false) }) (v := .slice (some ⟨lb, lo2, none⟩) l.length c) rfl (by kernel_rfl) (by kernel_rfl) (by kernel_rfl) (fun _ _ _ h => h) (Or.inl ⟨by rfl, fun w hSw => by obtain ⟨p0, p1, -⟩ := row2 (brow hSw HT.out); go_simp⟩) (by assumption) ?_
                      try simp only [Act.put, List.setIfInBounds_toArray, List.set_cons_zero, List.set_cons_succ]
                      refine wpAnyH_take (i := 6) (oi := { dst := some 82, op := Op.move (Operand.tmp 16), type := 3, pos := "law.go:231", after := #[{ on := 1, ground := Ground.guard }], guard := some (1, false) }) (v := .int .i64 (fi : Int)) rfl (by kernel_rfl) (by kernel_rfl) (by kernel_rfl) (fun _ _ _ h => h) (Or.inl ⟨by rfl, fun w hSw => by go_simp⟩) (by assumption) ?_
                      try simp only [Act.put, List.setIfInBounds_toArray, List.set_cons_zero, List.set_cons_succ]
                      refine wpAnyH_take (i := 7) (oi := { dst := some 83, op := Op.indexAddr 26 (Operand.tmp 81) (Operand.tmp 82), type := 0, pos := "law.go:231", after := #[{ on := 5, ground := Ground.data }, { on := 6, ground := Ground.data }, { on := 1, ground := Ground.guard }], guard := some (1, false) }) (v := .pointer (some ⟨lb, lo2 + fi * 7, none⟩)) rfl (by kernel_rfl) (by kernel_rfl) (by kernel_rfl) (fun _ _ _ h => h) (Or.inl ⟨by rfl, fun w hSw => by go_simp⟩) (by assumption) ?_
                      try simp only [Act.put, List.setIfInBounds_toArray, List.set_cons_zero, List.set_cons_succ]
                      refine wpAnyH_take (i := 8) (oi := { dst := some 84, op := Op.fieldAddr 43 (Operand.tmp 83) 3, type := 0, pos := "law.go:231", after := #[{ on := 7, ground := Ground.data }, { on := 1, ground := Ground.guard }], guard := some (1, false) }) (v := .pointer (some ⟨lb, lo2 + fi * 7 + 4, none⟩)) rfl (by kernel_rfl) (by kernel_rfl) (by kernel_rfl) (fun _ _ _ h => h) (Or.inl ⟨by rfl, fun w hSw => by go_simp⟩) (by assumption) ?_
                      try simp only [Act.put, List.setIfInBounds_toArray, List.set_cons_zero, List.set_cons_succ]
                      refine wpAnyH_take (i := 9) (oi := { dst := some 85, op := Op.load 41 (Operand.tmp 84), type := 41, pos := "law.go:231", after := #[{ on := 8, ground := Ground.data }, { on := 1, ground := Ground.guard }], guard := some (1, false) }) (v := .agg #[.int .u16 (e.s : Int), .int .u16 (e.m : Int)]) rfl (by kernel_rfl) (by kernel_rfl) (by kernel_rfl) (fun _ _ _ h => h) (Or.inl ⟨by rfl, fun w hSw => by obtain ⟨k0, k1, k2, k3, k4, k5, k6⟩ := HEL.out.2.keep (hSw.block lb HEL.out.1); go_simp⟩) (by assumption) ?_
                      try simp only [Act.put, List.setIfInBounds_toArray, List.set_cons_zero, List.set_cons_succ]
                      refine wpAnyH_ready (rs := [10]) (by kernel_rfl) (by simp) ?_
                      refine AllReadyH.cons (o := { dst := some 86, op := Op.call { callee := Callee.value (Operand.func 20), args := #[Operand.tmp 78, Operand.tmp 79, Operand.tmp 85], argTypes := #[46, 39, 41] }, type := 4, pos := "law.go:231", after := #[{ on := 2, ground := Ground.data }, { on := 3, ground := Ground.data }, { on := 9, ground := Ground.data }, { on := 1, ground := Ground.chain }, { on := 1, ground := Ground.guard }], guard := some (1, false) }) rfl (fun K hK => ?_) AllReadyH.nil
                      go_simp
                      with_reducible refine (HFE.out _ hHeld).mono ?_
                      rintro en wn ⟨rfl, hB⟩
                      have hS2 := hHeld.trans (hB.mono hHeld.size)
                      refine hK.out _ _ (hS2) (fun hHeld2 => ?_)
                      clear hK K hHeld
                      have hHeld := hHeld2
                      clear hHeld2
                      try simp only [Act.put, List.setIfInBounds_toArray, List.set_cons_zero, List.set_cons_succ]
                      clear hB hS2 wd
                      generalize wn = wd at *
                      refine wpAnyH_take (i := 11) (oi := { dst := some 87, op := Op.pick (Operand.tmp 77) (Operand.const (Value.bool true)) (Operand.tmp 86), type := 4, pos := "law.go:231", after := #[{ on := 1, ground := Ground.data }, { on := 10, ground := Ground.data }], guard := none }) (v := .bool fz) rfl (by kernel_rfl) (by kernel_rfl) (by kernel_rfl) (fun _ _ _ h => h) (Or.inl ⟨by rfl, fun w hSw => by go_simp⟩) (by assumption) ?_
                      try simp only [Act.put, List.setIfInBounds_toArray, List.set_cons_zero, List.set_cons_succ]
                      refine wpAnyH_take (i := 12) (oi := { dst := some 14, op := Op.assign (Operand.tmp 87), type := 4, pos := "law.go:231", after := #[{ on := 11, ground := Ground.data }, { on := 10, ground := Ground.chain }, { on := 0, ground := Ground.phase }, { on := 1, ground := Ground.phase }, { on := 2, ground := Ground.phase }, { on := 3, ground := Ground.phase }, { on := 4, ground := Ground.phase }, { on := 5, ground := Ground.phase }, { on := 6, ground := Ground.phase }, { on := 7, ground := Ground.phase }, { on := 8, ground := Ground.phase }, { on := 9, ground := Ground.phase }, { on := 10, ground := Ground.phase }, { on := 11, ground := Ground.phase }], guard := none }) (v := .bool fz) rfl (by kernel_rfl) (by kernel_rfl) (by kernel_rfl) (fun _ _ _ h => h) (Or.inl ⟨by rfl, fun w hSw => by go_simp⟩) (by assumption) ?_
                      try simp only [Act.put, List.setIfInBounds_toArray, List.set_cons_zero, List.set_cons_succ]
                      refine wpAnyH_done (by kernel_rfl) ?_ _
                      try unfold NoPanic
                      have HF := Lib.hid (HB10.out.trans (hHeld.mono HB10.out.size))
                      clear hHeld
                      go_wp2
                      go_roundw
                      case rel => exact ⟨b + 1, by omega, by rw [HH1.out], by rw [HF1.out, Bool.false_or], by go_num, HF.out⟩
                      case measure => simp [intOf]; omega
                    · skip
                      refine wp_region_noPanic ?_
                      refine wp_region_held_drew (S := fun y : World => Below w10.heap.size w10 y) (by kernel_rfl) ((Below.refl _ _).drew) (fun hHeld => ?_)
                      generalize w10.drew = wd at *
                      refine wpAnyH_take (i := 0) (oi := { dst := some 76, op := Op.move (Operand.tmp 14), type := 4, pos := "law.go:231", after := #[], guard := none }) (v := .bool true) rfl (by kernel_rfl) (by kernel_rfl) (by kernel_rfl) (fun _ _ _ h => h) (Or.inl ⟨by rfl, fun w hSw => by go_simp⟩) (by assumption) ?_
                      try simp only [Act.put, List.setIfInBounds_toArray, List.set_cons_zero, List.set_cons_succ]
                      refine wpAnyH_take (i := 1) (oi := { dst := some 77, op := Op.move (Operand.tmp 76), type := 4, pos := "law.go:231", after := #[{ on := 0, ground := Ground.data }], guard := none }) (v := .bool true) rfl (by kernel_rfl) (by kernel_rfl) (by kernel_rfl) (fun _ _ _ h => h) (Or.inl ⟨by rfl, fun w hSw => by go_simp⟩) (by assumption) ?_
                      try simp only [Act.put, List.setIfInBounds_toArray, List.set_cons_zero, List.set_cons_succ]
                      refine wpAnyH_take (i := 2) (oi := { dst := some 78, op := Op.move (Operand.tmp 8), type := 46, pos := "law.go:231", after := #[{ on := 1, ground := Ground.guard }], guard := some (1, false) }) (v := undef) rfl (by kernel_rfl) (by kernel_rfl) (by kernel_rfl) (fun _ _ _ h => h) (Or.inr ⟨by rfl, rfl⟩) (by assumption) ?_
                      try simp only [Act.put, List.setIfInBounds_toArray, List.set_cons_zero, List.set_cons_succ]
                      refine wpAnyH_take (i := 3) (oi := { dst := some 79, op := Op.load 39 (Operand.tmp 12), type := 39, pos := "law.go:231", after := #[{ on := 1, ground := Ground.guard }], guard := some (1, false) }) (v := undef) rfl (by kernel_rfl) (by kernel_rfl) (by kernel_rfl) (fun _ _ _ h => h) (Or.inr ⟨by rfl, rfl⟩) (by assumption) ?_
                      try simp only [Act.put, List.setIfInBounds_toArray, List.set_cons_zero, List.set_cons_succ]
                      refine wpAnyH_take (i := 4) (oi := { dst := some 80, op := Op.fieldAddr 29 (Operand.tmp 6) 0, type := 0, pos := "law.go:231", after := #[{ on := 1, ground := Ground.guard }], guard := some (1, false) }) (v := undef) rfl (by kernel_rfl) (by kernel_rfl) (by kernel_rfl) (fun _ _ _ h => h) (Or.inr ⟨by rfl, rfl⟩) (by assumption) ?_
                      try simp only [Act.put, List.setIfInBounds_toArray, List.set_cons_zero, List.set_cons_succ]
                      refine wpAnyH_take (i := 5) (oi := { dst := some 81, op := Op.load 26 (Operand.tmp 80), type := 26, pos := "law.go:231", after := #[{ on := 4, ground := Ground.data }, { on := 1, ground := Ground.guard }], guard := some (1, false) }) (v := undef) rfl (by kernel_rfl) (by kernel_rfl) (by kernel_rfl) (fun _ _ _ h => h) (Or.inr ⟨by rfl, rfl⟩) (by assumption) ?_
                      try simp only [Act.put, List.setIfInBounds_toArray, List.set_cons_zero, List.set_cons_succ]
                      refine wpAnyH_take (i := 6) (oi := { dst := some 82, op := Op.move (Operand.tmp 16), type := 3, pos := "law.go:231", after := #[{ on := 1, ground := Ground.guard }], guard := some (1, false) }) (v := undef) rfl (by kernel_rfl) (by kernel_rfl) (by kernel_rfl) (fun _ _ _ h => h) (Or.inr ⟨by rfl, rfl⟩) (by assumption) ?_
                      try simp only [Act.put, List.setIfInBounds_toArray, List.set_cons_zero, List.set_cons_succ]
                      refine wpAnyH_take (i := 7) (oi := { dst := some 83, op := Op.indexAddr 26 (Operand.tmp 81) (Operand.tmp 82), type := 0, pos := "law.go:231", after := #[{ on := 5, ground := Ground.data }, { on := 6, ground := Ground.data }, { on := 1, ground := Ground.guard }], guard := some (1, false) }) (v := undef) rfl (by kernel_rfl) (by kernel_rfl) (by kernel_rfl) (fun _ _ _ h => h) (Or.inr ⟨by rfl, rfl⟩) (by assumption) ?_
                      try simp only [Act.put, List.setIfInBounds_toArray, List.set_cons_zero, List.set_cons_succ]
                      refine wpAnyH_take (i := 8) (oi := { dst := some 84, op := Op.fieldAddr 43 (Operand.tmp 83) 3, type := 0, pos := "law.go:231", after := #[{ on := 7, ground := Ground.data }, { on := 1, ground := Ground.guard }], guard := some (1, false) }) (v := undef) rfl (by kernel_rfl) (by kernel_rfl) (by kernel_rfl) (fun _ _ _ h => h) (Or.inr ⟨by rfl, rfl⟩) (by assumption) ?_
                      try simp only [Act.put, List.setIfInBounds_toArray, List.set_cons_zero, List.set_cons_succ]
                      refine wpAnyH_take (i := 9) (oi := { dst := some 85, op := Op.load 41 (Operand.tmp 84), type := 41, pos := "law.go:231", after := #[{ on := 8, ground := Ground.data }, { on := 1, ground := Ground.guard }], guard := some (1, false) }) (v := undef) rfl (by kernel_rfl) (by kernel_rfl) (by kernel_rfl) (fun _ _ _ h => h) (Or.inr ⟨by rfl, rfl⟩) (by assumption) ?_
                      try simp only [Act.put, List.setIfInBounds_toArray, List.set_cons_zero, List.set_cons_succ]
                      refine wpAnyH_take (i := 10) (oi := { dst := some 86, op := Op.call { callee := Callee.value (Operand.func 20), args := #[Operand.tmp 78, Operand.tmp 79, Operand.tmp 85], argTypes := #[46, 39, 41] }, type := 4, pos := "law.go:231", after := #[{ on := 2, ground := Ground.data }, { on := 3, ground := Ground.data }, { on := 9, ground := Ground.data }, { on := 1, ground := Ground.chain }, { on := 1, ground := Ground.guard }], guard := some (1, false) }) (v := undef) rfl (by kernel_rfl) (by kernel_rfl) (by kernel_rfl) (fun _ _ _ h => h) (Or.inr ⟨by rfl, rfl⟩) (by assumption) ?_
                      try simp only [Act.put, List.setIfInBounds_toArray, List.set_cons_zero, List.set_cons_succ]
                      refine wpAnyH_take (i := 11) (oi := { dst := some 87, op := Op.pick (Operand.tmp 77) (Operand.const (Value.bool true)) (Operand.tmp 86), type := 4, pos := "law.go:231", after := #[{ on := 1, ground := Ground.data }, { on := 10, ground := Ground.data }], guard := none }) (v := .bool true) rfl (by kernel_rfl) (by kernel_rfl) (by kernel_rfl) (fun _ _ _ h => h) (Or.inl ⟨by rfl, fun w hSw => by go_simp⟩) (by assumption) ?_
                      try simp only [Act.put, List.setIfInBounds_toArray, List.set_cons_zero, List.set_cons_succ]
                      refine wpAnyH_take (i := 12) (oi := { dst := some 14, op := Op.assign (Operand.tmp 87), type := 4, pos := "law.go:231", after := #[{ on := 11, ground := Ground.data }, { on := 10, ground := Ground.chain }, { on := 0, ground := Ground.phase }, { on := 1, ground := Ground.phase }, { on := 2, ground := Ground.phase }, { on := 3, ground := Ground.phase }, { on := 4, ground := Ground.phase }, { on := 5, ground := Ground.phase }, { on := 6, ground := Ground.phase }, { on := 7, ground := Ground.phase }, { on := 8, ground := Ground.phase }, { on := 9, ground := Ground.phase }, { on := 10, ground := Ground.phase }, { on := 11, ground := Ground.phase }], guard := none }) (v := .bool true) rfl (by kernel_rfl) (by kernel_rfl) (by kernel_rfl) (fun _ _ _ h => h) (Or.inl ⟨by rfl, fun w hSw => by go_simp⟩) (by assumption) ?_
                      try simp only [Act.put, List.setIfInBounds_toArray, List.set_cons_zero, List.set_cons_succ]
                      refine wpAnyH_done (by kernel_rfl) ?_ _
                      try unfold NoPanic
                      have HF := Lib.hid (HB10.out.trans (hHeld.mono HB10.out.size))
                      clear hHeld
                      go_wp2
                      go_roundw
                      case rel => exact ⟨b + 1, by omega, by rw [HH1.out], by rw [HF1.out, Bool.true_or], by go_num, HF.out⟩
                      case measure => simp [intOf]; omega
                  · have HH1 : Hid (anyB L (fun _ => true) a n (b + 1) = hz) := Lib.hid (by rw [hhz]; exact anyB_miss _ hno)
                    have HF1 : Hid (anyB L (feasE f) a n (b + 1) = fb) := Lib.hid (by rw [hfb]; exact anyB_miss _ hno)
                    have HFI : Hid (∀ W, Below wr.heap.size wr W → Calls Try.prog 12 #[.agg #[.slice A l.length c, .int .u64 (now : Int)], .agg #[.int .u32 (a : Int), .int .u8 (n : Int)], .int .i64 (b : Int)] W fun en w' => en = .returned (.int .i64 (-1)) ∧ Below W.heap.size W w') := Lib.hid fun W hW => by
                      have := lfind_any W A l.length c now l rfl (by have := HI.out.2.1; omega) (((HQ9.out.step HB5.out).step hW).esl.2) a n b
                      rw [hix] at this
                      exact this
                    clear hix hno hhz hfb
                    obtain ⟨t0, t1, -⟩ := row2 HT5.out
                    obtain ⟨p0, p1, -⟩ := row2 HPB5.out
                    go_wp2_with (first
                      | (go_at_call 12; clear t0 t1 p0 p1; (with_reducible refine (HFI.out _ (Below.refl _ _)).mono ?_); rintro en w10 ⟨rfl, B10⟩; have HF := Lib.hid (HB5.out.trans (B10.mono HB5.out.size)); clear B10))
                    go_roundw
                    case rel => exact ⟨b + 1, by omega, by rw [HH1.out], by rw [HF1.out], by go_num, HF.out⟩
                    case measure => simp [intOf]; omega
                · have hb8 : b = 8 := by omega
                  rw [← hhz, ← hfb]
                  have HHAS : Hid (hasB bs (a, n) nb = (hz && !fb)) := Lib.hid (by rw [HNB.out.1, hhz, hfb, hb8]; exact HS6.out.1.has HI.out.1 a n)
                  clear hhz hfb HT5 HPB5 hb8
                  go_wp2
                  go_loopw [17, 18] (fun zv iv wt => ∃ j : Nat, j ≤ nb ∧ zv = .bool (hasB bs (a, n) j) ∧ iv = .int .i64 j ∧ Hid (Below w9.heap.size w9 wt)) (fun _ iv _ => nb - (intOf iv).toNat)
                  case atStart => exact ⟨0, Nat.zero_le _, rfl, rfl, HB5.out⟩
                  case round =>
                    obtain ⟨j, hj, rfl, rfl, HB6⟩ := hrel
                    clear HB5
                    obtain ⟨zb, hzb⟩ : ∃ zb, zb = hasB bs (a, n) j := ⟨_, rfl⟩
                    by_cases hlt4 : j < nb
                    · rw [← hzb]
                      have hjb : j < bs.length := by rw [← HNB.out.1]; exact hlt4
                      have HZ1 : Hid (hasB bs (a, n) (j + 1) = (zb || decide (bs[j] = (a, n)))) := Lib.hid (by rw [hzb]; exact hasB_succ _ hjb)
                      obtain ⟨xb, cur, rfl, -, hcur, hcl⟩ := HS6.out.2.1 (by omega)
                      have hx := hcl j hjb
                      generalize bs[j] = x at hx HZ1
                      obtain ⟨x1, x2⟩ := x
                      have hlb6 := (Array.getElem?_eq_some_iff.1 hcur).1
                      have HX : Hid (∀ W, Below wr.heap.size wr W → W.cell? ⟨xb, j * 2, none⟩ = some (.int .u32 (x1 : Int)) ∧ W.cell? ⟨xb, j * 2 + 1, none⟩ = some (.int .u8 (x2 : Int))) := Lib.hid fun W hW => by
                        have hBW := HB9.out.trans ((HB6.out.trans (hW.mono HB6.out.size)).mono HB9.out.size)
                        have hk2 : ∀ i, W.cell? ⟨xb, i, none⟩ = w6.cell? ⟨xb, i, none⟩ := fun i => World.cell?_of_block (a := ⟨xb, i, none⟩) (hBW.block xb hlb6)
                        exact ⟨(hk2 _).trans hx.1, (hk2 _).trans hx.2⟩
                      have HPB := Lib.hid (brow HB6.out HPB9.out)
                      clear hx hcl hcur hlb6 hzb
                      go_upto_region 30 with (fail)
                      cases zb
                      · by_cases h1 : a = x1
                        · by_cases h2 : n = x2
                          · subst h1 h2
                            refine wp_region_noPanic ?_
                            refine wp_region_held_drew (S := fun y : World => Below wr.heap.size wr y) (by kernel_rfl) ((Below.refl _ _).drew) (fun hHeld => ?_)
                            generalize wr.drew = wd at *
                            refine wpAnyH_take (i := 0) (oi := { dst := some 94, op := Op.move (Operand.tmp 17), type := 4, pos := "law.go:236", after := #[], guard := none }) (v := .bool false) rfl (by kernel_rfl) (by kernel_rfl) (by kernel_rfl) (fun _ _ _ h => h) (Or.inl ⟨by rfl, fun w hSw => by go_simp⟩) (by assumption) ?_
                            try simp only [Act.put, List.setIfInBounds_toArray, List.set_cons_zero, List.set_cons_succ]
                            refine wpAnyH_take (i := 1) (oi := { dst := some 95, op := Op.move (Operand.tmp 94), type := 4, pos := "law.go:236", after := #[{ on := 0, ground := Ground.data }], guard := none }) (v := .bool false) rfl (by kernel_rfl) (by kernel_rfl) (by kernel_rfl) (fun _ _ _ h => h) (Or.inl ⟨by rfl, fun w hSw => by go_simp⟩) (by assumption) ?_
                            try simp only [Act.put, List.setIfInBounds_toArray, List.set_cons_zero, List.set_cons_succ]
                            refine wpAnyH_take (i := 2) (oi := { dst := some 96, op := Op.move (Operand.tmp 9), type := 59, pos := "law.go:236", after := #[{ on := 1, ground := Ground.guard }], guard := some (1, false) }) (v := .slice (some ⟨xb, 0, none⟩) nb cr) rfl (by kernel_rfl) (by kernel_rfl) (by kernel_rfl) (fun _ _ _ h => h) (Or.inl ⟨by rfl, fun w hSw => by go_simp⟩) (by assumption) ?_
                            try simp only [Act.put, List.setIfInBounds_toArray, List.set_cons_zero, List.set_cons_succ]
                            refine wpAnyH_take (i := 3) (oi := { dst := some 97, op := Op.move (Operand.tmp 18), type := 3, pos := "law.go:236", after := #[{ on := 1, ground := Ground.guard }], guard := some (1, false) }) (v := .int .i64 (j : Int)) rfl (by kernel_rfl) (by kernel_rfl) (by kernel_rfl) (fun _ _ _ h => h) (Or.inl ⟨by rfl, fun w hSw => by go_simp⟩) (by assumption) ?_
                            try simp only [Act.put, List.setIfInBounds_toArray, List.set_cons_zero, List.set_cons_succ]
                            refine wpAnyH_take (i := 4) (oi := { dst := some 98, op := Op.indexAddr 59 (Operand.tmp 96) (Operand.tmp 97), type := 0, pos := "law.go:236", after := #[{ on := 2, ground := Ground.data }, { on := 3, ground := Ground.data }, { on := 1, ground := Ground.guard }], guard := some (1, false) }) (v := .pointer (some ⟨xb, j * 2, none⟩)) rfl (by kernel_rfl) (by kernel_rfl) (by kernel_rfl) (fun _ _ _ h => h) (Or.inl ⟨by rfl, fun w hSw => by go_simp⟩) (by assumption) ?_
                            try simp only [Act.put, List.setIfInBounds_toArray, List.set_cons_zero, List.set_cons_succ]
                            refine wpAnyH_take (i := 5) (oi := { dst := some 99, op := Op.load 39 (Operand.tmp 98), type := 39, pos := "law.go:236", after := #[{ on := 4, ground := Ground.data }, { on := 1, ground := Ground.guard }], guard := some (1, false) }) (v := .agg #[.int .u32 (a : Int), .int .u8 (n : Int)]) rfl (by kernel_rfl) (by kernel_rfl) (by kernel_rfl) (fun _ _ _ h => h) (Or.inl ⟨by rfl, fun w hSw => by obtain ⟨c0, c1⟩ := HX.out _ hSw; go_simp⟩) (by assumption) ?_
                            try simp only [Act.put, List.setIfInBounds_toArray, List.set_cons_zero, List.set_cons_succ]
                            refine wpAnyH_take (i := 6) (oi := { dst := some 100, op := Op.load 39 (Operand.tmp 12), type := 39, pos := "law.go:236", after := #[{ on := 1, ground := Ground.guard }], guard := some (1, false) }) (v := .agg #[.int .u32 (a : Int), .int .u8 (n : Int)]) rfl (by kernel_rfl) (by kernel_rfl) (by kernel_rfl) (fun _ _ _ h => h) (Or.inl ⟨by rfl, fun w hSw => by obtain ⟨p0, p1, -⟩ := row2 (brow hSw HPB.out); go_simp⟩) (by assumption) ?_
                            try simp only [Act.put, List.setIfInBounds_toArray, List.set_cons_zero, List.set_cons_succ]
                            refine wpAnyH_take (i := 7) (oi := { dst := some 101, op := Op.binOp BinOp.eql 39 (Operand.tmp 99) (Operand.tmp 100) 39, type := 4, pos := "law.go:236", after := #[{ on := 5, ground := Ground.data }, { on := 6, ground := Ground.data }, { on := 1, ground := Ground.guard }], guard := some (1, false) }) (v := .bool true) rfl (by kernel_rfl) (by kernel_rfl) (by kernel_rfl) (fun _ _ _ h => h) (Or.inl ⟨by rfl, fun w hSw => by go_simp⟩) (by assumption) ?_
                            try simp only [Act.put, List.setIfInBounds_toArray, List.set_cons_zero, List.set_cons_succ]
                            refine wpAnyH_take (i := 8) (oi := { dst := some 102, op := Op.pick (Operand.tmp 95) (Operand.const (Value.bool true)) (Operand.tmp 101), type := 4, pos := "law.go:236", after := #[{ on := 1, ground := Ground.data }, { on := 7, ground := Ground.data }], guard := none }) (v := .bool true) rfl (by kernel_rfl) (by kernel_rfl) (by kernel_rfl) (fun _ _ _ h => h) (Or.inl ⟨by rfl, fun w hSw => by go_simp⟩) (by assumption) ?_
                            try simp only [Act.put, List.setIfInBounds_toArray, List.set_cons_zero, List.set_cons_succ]
                            refine wpAnyH_take (i := 9) (oi := { dst := some 17, op := Op.assign (Operand.tmp 102), type := 4, pos := "law.go:236", after := #[{ on := 8, ground := Ground.data }, { on := 1, ground := Ground.chain }, { on := 0, ground := Ground.phase }, { on := 1, ground := Ground.phase }, { on := 2, ground := Ground.phase }, { on := 3, ground := Ground.phase }, { on := 4, ground := Ground.phase }, { on := 5, ground := Ground.phase }, { on := 6, ground := Ground.phase }, { on := 7, ground := Ground.phase }, { on := 8, ground := Ground.phase }], guard := none }) (v := .bool true) rfl (by kernel_rfl) (by kernel_rfl) (by kernel_rfl) (fun _ _ _ h => h) (Or.inl ⟨by rfl, fun w hSw => by go_simp⟩) (by assumption) ?_
                            try simp only [Act.put, List.setIfInBounds_toArray, List.set_cons_zero, List.set_cons_succ]
                            refine wpAnyH_done (by kernel_rfl) ?_ _
                            try unfold NoPanic
                            have HF := Lib.hid (HB6.out.trans (hHeld.mono HB6.out.size))
                            clear hHeld
                            go_wp2
                            go_roundw
                            case rel => exact ⟨j + 1, by omega, by rw [HZ1.out]; simp, by go_num, HF.out⟩
                            case measure => simp [intOf]; omega
                          · have h2' : ¬ (x2 : Int) = (n : Int) := by omega
                            subst h1
                            refine wp_region_noPanic ?_
                            refine wp_region_held_drew (S := fun y : World => Below wr.heap.size wr y) (by kernel_rfl) ((Below.refl _ _).drew) (fun hHeld => ?_)
                            generalize wr.drew = wd at *
                            refine wpAnyH_take (i := 0) (oi := { dst := some 94, op := Op.move (Operand.tmp 17), type := 4, pos := "law.go:236", after := #[], guard := none }) (v := .bool false) rfl (by kernel_rfl) (by kernel_rfl) (by kernel_rfl) (fun _ _ _ h => h) (Or.inl ⟨by rfl, fun w hSw => by go_simp⟩) (by assumption) ?_
                            try simp only [Act.put, List.setIfInBounds_toArray, List.set_cons_zero, List.set_cons_succ]
                            refine wpAnyH_take (i := 1) (oi := { dst := some 95, op := Op.move (Operand.tmp 94), type := 4, pos := "law.go:236", after := #[{ on := 0, ground := Ground.data }], guard := none }) (v := .bool false) rfl (by kernel_rfl) (by kernel_rfl) (by kernel_rfl) (fun _ _ _ h => h) (Or.inl ⟨by rfl, fun w hSw => by go_simp⟩) (by assumption) ?_
                            try simp only [Act.put, List.setIfInBounds_toArray, List.set_cons_zero, List.set_cons_succ]
                            refine wpAnyH_take (i := 2) (oi := { dst := some 96, op := Op.move (Operand.tmp 9), type := 59, pos := "law.go:236", after := #[{ on := 1, ground := Ground.guard }], guard := some (1, false) }) (v := .slice (some ⟨xb, 0, none⟩) nb cr) rfl (by kernel_rfl) (by kernel_rfl) (by kernel_rfl) (fun _ _ _ h => h) (Or.inl ⟨by rfl, fun w hSw => by go_simp⟩) (by assumption) ?_
                            try simp only [Act.put, List.setIfInBounds_toArray, List.set_cons_zero, List.set_cons_succ]
                            refine wpAnyH_take (i := 3) (oi := { dst := some 97, op := Op.move (Operand.tmp 18), type := 3, pos := "law.go:236", after := #[{ on := 1, ground := Ground.guard }], guard := some (1, false) }) (v := .int .i64 (j : Int)) rfl (by kernel_rfl) (by kernel_rfl) (by kernel_rfl) (fun _ _ _ h => h) (Or.inl ⟨by rfl, fun w hSw => by go_simp⟩) (by assumption) ?_
                            try simp only [Act.put, List.setIfInBounds_toArray, List.set_cons_zero, List.set_cons_succ]
                            refine wpAnyH_take (i := 4) (oi := { dst := some 98, op := Op.indexAddr 59 (Operand.tmp 96) (Operand.tmp 97), type := 0, pos := "law.go:236", after := #[{ on := 2, ground := Ground.data }, { on := 3, ground := Ground.data }, { on := 1, ground := Ground.guard }], guard := some (1, false) }) (v := .pointer (some ⟨xb, j * 2, none⟩)) rfl (by kernel_rfl) (by kernel_rfl) (by kernel_rfl) (fun _ _ _ h => h) (Or.inl ⟨by rfl, fun w hSw => by go_simp⟩) (by assumption) ?_
                            try simp only [Act.put, List.setIfInBounds_toArray, List.set_cons_zero, List.set_cons_succ]
                            refine wpAnyH_take (i := 5) (oi := { dst := some 99, op := Op.load 39 (Operand.tmp 98), type := 39, pos := "law.go:236", after := #[{ on := 4, ground := Ground.data }, { on := 1, ground := Ground.guard }], guard := some (1, false) }) (v := .agg #[.int .u32 (a : Int), .int .u8 (x2 : Int)]) rfl (by kernel_rfl) (by kernel_rfl) (by kernel_rfl) (fun _ _ _ h => h) (Or.inl ⟨by rfl, fun w hSw => by obtain ⟨c0, c1⟩ := HX.out _ hSw; go_simp⟩) (by assumption) ?_
                            try simp only [Act.put, List.setIfInBounds_toArray, List.set_cons_zero, List.set_cons_succ]
                            refine wpAnyH_take (i := 6) (oi := { dst := some 100, op := Op.load 39 (Operand.tmp 12), type := 39, pos := "law.go:236", after := #[{ on := 1, ground := Ground.guard }], guard := some (1, false) }) (v := .agg #[.int .u32 (a : Int), .int .u8 (n : Int)]) rfl (by kernel_rfl) (by kernel_rfl) (by kernel_rfl) (fun _ _ _ h => h) (Or.inl ⟨by rfl, fun w hSw => by obtain ⟨p0, p1, -⟩ := row2 (brow hSw HPB.out); go_simp⟩) (by assumption) ?_
                            try simp only [Act.put, List.setIfInBounds_toArray, List.set_cons_zero, List.set_cons_succ]
                            refine wpAnyH_take (i := 7) (oi := { dst := some 101, op := Op.binOp BinOp.eql 39 (Operand.tmp 99) (Operand.tmp 100) 39, type := 4, pos := "law.go:236", after := #[{ on := 5, ground := Ground.data }, { on := 6, ground := Ground.data }, { on := 1, ground := Ground.guard }], guard := some (1, false) }) (v := .bool false) rfl (by kernel_rfl) (by kernel_rfl) (by kernel_rfl) (fun _ _ _ h => h) (Or.inl ⟨by rfl, fun w hSw => by go_simp⟩) (by assumption) ?_
                            try simp only [Act.put, List.setIfInBounds_toArray, List.set_cons_zero, List.set_cons_succ]
                            refine wpAnyH_take (i := 8) (oi := { dst := some 102, op := Op.pick (Operand.tmp 95) (Operand.const (Value.bool true)) (Operand.tmp 101), type := 4, pos := "law.go:236", after := #[{ on := 1, ground := Ground.data }, { on := 7, ground := Ground.data }], guard := none }) (v := .bool false) rfl (by kernel_rfl) (by kernel_rfl) (by kernel_rfl) (fun _ _ _ h => h) (Or.inl ⟨by rfl, fun w hSw => by go_simp⟩) (by assumption) ?_
                            try simp only [Act.put, List.setIfInBounds_toArray, List.set_cons_zero, List.set_cons_succ]
                            refine wpAnyH_take (i := 9) (oi := { dst := some 17, op := Op.assign (Operand.tmp 102), type := 4, pos := "law.go:236", after := #[{ on := 8, ground := Ground.data }, { on := 1, ground := Ground.chain }, { on := 0, ground := Ground.phase }, { on := 1, ground := Ground.phase }, { on := 2, ground := Ground.phase }, { on := 3, ground := Ground.phase }, { on := 4, ground := Ground.phase }, { on := 5, ground := Ground.phase }, { on := 6, ground := Ground.phase }, { on := 7, ground := Ground.phase }, { on := 8, ground := Ground.phase }], guard := none }) (v := .bool false) rfl (by kernel_rfl) (by kernel_rfl) (by kernel_rfl) (fun _ _ _ h => h) (Or.inl ⟨by rfl, fun w hSw => by go_simp⟩) (by assumption) ?_
                            try simp only [Act.put, List.setIfInBounds_toArray, List.set_cons_zero, List.set_cons_succ]
                            refine wpAnyH_done (by kernel_rfl) ?_ _
                            try unfold NoPanic
                            have HF := Lib.hid (HB6.out.trans (hHeld.mono HB6.out.size))
                            clear hHeld
                            go_wp2
                            go_roundw
                            case rel => exact ⟨j + 1, by omega, by rw [HZ1.out]; simp; omega, by go_num, HF.out⟩
                            case measure => simp [intOf]; omega
                        · have h1' : ¬ (x1 : Int) = (a : Int) := by omega
                          refine wp_region_noPanic ?_
                          refine wp_region_held_drew (S := fun y : World => Below wr.heap.size wr y) (by kernel_rfl) ((Below.refl _ _).drew) (fun hHeld => ?_)
                          generalize wr.drew = wd at *
                          refine wpAnyH_take (i := 0) (oi := { dst := some 94, op := Op.move (Operand.tmp 17), type := 4, pos := "law.go:236", after := #[], guard := none }) (v := .bool false) rfl (by kernel_rfl) (by kernel_rfl) (by kernel_rfl) (fun _ _ _ h => h) (Or.inl ⟨by rfl, fun w hSw => by go_simp⟩) (by assumption) ?_
                          try simp only [Act.put, List.setIfInBounds_toArray, List.set_cons_zero, List.set_cons_succ]
                          refine wpAnyH_take (i := 1) (oi := { dst := some 95, op := Op.move (Operand.tmp 94), type := 4, pos := "law.go:236", after := #[{ on := 0, ground := Ground.data }], guard := none }) (v := .bool false) rfl (by kernel_rfl) (by kernel_rfl) (by kernel_rfl) (fun _ _ _ h => h) (Or.inl ⟨by rfl, fun w hSw => by go_simp⟩) (by assumption) ?_
                          try simp only [Act.put, List.setIfInBounds_toArray, List.set_cons_zero, List.set_cons_succ]
                          refine wpAnyH_take (i := 2) (oi := { dst := some 96, op := Op.move (Operand.tmp 9), type := 59, pos := "law.go:236", after := #[{ on := 1, ground := Ground.guard }], guard := some (1, false) }) (v := .slice (some ⟨xb, 0, none⟩) nb cr) rfl (by kernel_rfl) (by kernel_rfl) (by kernel_rfl) (fun _ _ _ h => h) (Or.inl ⟨by rfl, fun w hSw => by go_simp⟩) (by assumption) ?_
                          try simp only [Act.put, List.setIfInBounds_toArray, List.set_cons_zero, List.set_cons_succ]
                          refine wpAnyH_take (i := 3) (oi := { dst := some 97, op := Op.move (Operand.tmp 18), type := 3, pos := "law.go:236", after := #[{ on := 1, ground := Ground.guard }], guard := some (1, false) }) (v := .int .i64 (j : Int)) rfl (by kernel_rfl) (by kernel_rfl) (by kernel_rfl) (fun _ _ _ h => h) (Or.inl ⟨by rfl, fun w hSw => by go_simp⟩) (by assumption) ?_
                          try simp only [Act.put, List.setIfInBounds_toArray, List.set_cons_zero, List.set_cons_succ]
                          refine wpAnyH_take (i := 4) (oi := { dst := some 98, op := Op.indexAddr 59 (Operand.tmp 96) (Operand.tmp 97), type := 0, pos := "law.go:236", after := #[{ on := 2, ground := Ground.data }, { on := 3, ground := Ground.data }, { on := 1, ground := Ground.guard }], guard := some (1, false) }) (v := .pointer (some ⟨xb, j * 2, none⟩)) rfl (by kernel_rfl) (by kernel_rfl) (by kernel_rfl) (fun _ _ _ h => h) (Or.inl ⟨by rfl, fun w hSw => by go_simp⟩) (by assumption) ?_
                          try simp only [Act.put, List.setIfInBounds_toArray, List.set_cons_zero, List.set_cons_succ]
                          refine wpAnyH_take (i := 5) (oi := { dst := some 99, op := Op.load 39 (Operand.tmp 98), type := 39, pos := "law.go:236", after := #[{ on := 4, ground := Ground.data }, { on := 1, ground := Ground.guard }], guard := some (1, false) }) (v := .agg #[.int .u32 (x1 : Int), .int .u8 (x2 : Int)]) rfl (by kernel_rfl) (by kernel_rfl) (by kernel_rfl) (fun _ _ _ h => h) (Or.inl ⟨by rfl, fun w hSw => by obtain ⟨c0, c1⟩ := HX.out _ hSw; go_simp⟩) (by assumption) ?_
                          try simp only [Act.put, List.setIfInBounds_toArray, List.set_cons_zero, List.set_cons_succ]
                          refine wpAnyH_take (i := 6) (oi := { dst := some 100, op := Op.load 39 (Operand.tmp 12), type := 39, pos := "law.go:236", after := #[{ on := 1, ground := Ground.guard }], guard := some (1, false) }) (v := .agg #[.int .u32 (a : Int), .int .u8 (n : Int)]) rfl (by kernel_rfl) (by kernel_rfl) (by kernel_rfl) (fun _ _ _ h => h) (Or.inl ⟨by rfl, fun w hSw => by obtain ⟨p0, p1, -⟩ := row2 (brow hSw HPB.out); go_simp⟩) (by assumption) ?_
                          try simp only [Act.put, List.setIfInBounds_toArray, List.set_cons_zero, List.set_cons_succ]
                          refine wpAnyH_take (i := 7) (oi := { dst := some 101, op := Op.binOp BinOp.eql 39 (Operand.tmp 99) (Operand.tmp 100) 39, type := 4, pos := "law.go:236", after := #[{ on := 5, ground := Ground.data }, { on := 6, ground := Ground.data }, { on := 1, ground := Ground.guard }], guard := some (1, false) }) (v := .bool false) rfl (by kernel_rfl) (by kernel_rfl) (by kernel_rfl) (fun _ _ _ h => h) (Or.inl ⟨by rfl, fun w hSw => by go_simp⟩) (by assumption) ?_
                          try simp only [Act.put, List.setIfInBounds_toArray, List.set_cons_zero, List.set_cons_succ]
                          refine wpAnyH_take (i := 8) (oi := { dst := some 102, op := Op.pick (Operand.tmp 95) (Operand.const (Value.bool true)) (Operand.tmp 101), type := 4, pos := "law.go:236", after := #[{ on := 1, ground := Ground.data }, { on := 7, ground := Ground.data }], guard := none }) (v := .bool false) rfl (by kernel_rfl) (by kernel_rfl) (by kernel_rfl) (fun _ _ _ h => h) (Or.inl ⟨by rfl, fun w hSw => by go_simp⟩) (by assumption) ?_
                          try simp only [Act.put, List.setIfInBounds_toArray, List.set_cons_zero, List.set_cons_succ]
                          refine wpAnyH_take (i := 9) (oi := { dst := some 17, op := Op.assign (Operand.tmp 102), type := 4, pos := "law.go:236", after := #[{ on := 8, ground := Ground.data }, { on := 1, ground := Ground.chain }, { on := 0, ground := Ground.phase }, { on := 1, ground := Ground.phase }, { on := 2, ground := Ground.phase }, { on := 3, ground := Ground.phase }, { on := 4, ground := Ground.phase }, { on := 5, ground := Ground.phase }, { on := 6, ground := Ground.phase }, { on := 7, ground := Ground.phase }, { on := 8, ground := Ground.phase }], guard := none }) (v := .bool false) rfl (by kernel_rfl) (by kernel_rfl) (by kernel_rfl) (fun _ _ _ h => h) (Or.inl ⟨by rfl, fun w hSw => by go_simp⟩) (by assumption) ?_
                          try simp only [Act.put, List.setIfInBounds_toArray, List.set_cons_zero, List.set_cons_succ]
                          refine wpAnyH_done (by kernel_rfl) ?_ _
                          try unfold NoPanic
                          have HF := Lib.hid (HB6.out.trans (hHeld.mono HB6.out.size))
                          clear hHeld
                          go_wp2
                          go_roundw
                          case rel => exact ⟨j + 1, by omega, by rw [HZ1.out]; simp; omega, by go_num, HF.out⟩
                          case measure => simp [intOf]; omega
                      · skip
                        refine wp_region_noPanic ?_
                        refine wp_region_held_drew (S := fun y : World => Below wr.heap.size wr y) (by kernel_rfl) ((Below.refl _ _).drew) (fun hHeld => ?_)
                        generalize wr.drew = wd at *
                        refine wpAnyH_take (i := 0) (oi := { dst := some 94, op := Op.move (Operand.tmp 17), type := 4, pos := "law.go:236", after := #[], guard := none }) (v := .bool true) rfl (by kernel_rfl) (by kernel_rfl) (by kernel_rfl) (fun _ _ _ h => h) (Or.inl ⟨by rfl, fun w hSw => by go_simp⟩) (by assumption) ?_
                        try simp only [Act.put, List.setIfInBounds_toArray, List.set_cons_zero, List.set_cons_succ]
                        refine wpAnyH_take (i := 1) (oi := { dst := some 95, op := Op.move (Operand.tmp 94), type := 4, pos := "law.go:236", after := #[{ on := 0, ground := Ground.data }], guard := none }) (v := .bool true) rfl (by kernel_rfl) (by kernel_rfl) (by kernel_rfl) (fun _ _ _ h => h) (Or.inl ⟨by rfl, fun w hSw => by go_simp⟩) (by assumption) ?_
                        try simp only [Act.put, List.setIfInBounds_toArray, List.set_cons_zero, List.set_cons_succ]
                        refine wpAnyH_take (i := 2) (oi := { dst := some 96, op := Op.move (Operand.tmp 9), type := 59, pos := "law.go:236", after := #[{ on := 1, ground := Ground.guard }], guard := some (1, false) }) (v := undef) rfl (by kernel_rfl) (by kernel_rfl) (by kernel_rfl) (fun _ _ _ h => h) (Or.inr ⟨by rfl, rfl⟩) (by assumption) ?_
                        try simp only [Act.put, List.setIfInBounds_toArray, List.set_cons_zero, List.set_cons_succ]
                        refine wpAnyH_take (i := 3) (oi := { dst := some 97, op := Op.move (Operand.tmp 18), type := 3, pos := "law.go:236", after := #[{ on := 1, ground := Ground.guard }], guard := some (1, false) }) (v := undef) rfl (by kernel_rfl) (by kernel_rfl) (by kernel_rfl) (fun _ _ _ h => h) (Or.inr ⟨by rfl, rfl⟩) (by assumption) ?_
                        try simp only [Act.put, List.setIfInBounds_toArray, List.set_cons_zero, List.set_cons_succ]
                        refine wpAnyH_take (i := 4) (oi := { dst := some 98, op := Op.indexAddr 59 (Operand.tmp 96) (Operand.tmp 97), type := 0, pos := "law.go:236", after := #[{ on := 2, ground := Ground.data }, { on := 3, ground := Ground.data }, { on := 1, ground := Ground.guard }], guard := some (1, false) }) (v := undef) rfl (by kernel_rfl) (by kernel_rfl) (by kernel_rfl) (fun _ _ _ h => h) (Or.inr ⟨by rfl, rfl⟩) (by assumption) ?_
                        try simp only [Act.put, List.setIfInBounds_toArray, List.set_cons_zero, List.set_cons_succ]
                        refine wpAnyH_take (i := 5) (oi := { dst := some 99, op := Op.load 39 (Operand.tmp 98), type := 39, pos := "law.go:236", after := #[{ on := 4, ground := Ground.data }, { on := 1, ground := Ground.guard }], guard := some (1, false) }) (v := undef) rfl (by kernel_rfl) (by kernel_rfl) (by kernel_rfl) (fun _ _ _ h => h) (Or.inr ⟨by rfl, rfl⟩) (by assumption) ?_
                        try simp only [Act.put, List.setIfInBounds_toArray, List.set_cons_zero, List.set_cons_succ]
                        refine wpAnyH_take (i := 6) (oi := { dst := some 100, op := Op.load 39 (Operand.tmp 12), type := 39, pos := "law.go:236", after := #[{ on := 1, ground := Ground.guard }], guard := some (1, false) }) (v := undef) rfl (by kernel_rfl) (by kernel_rfl) (by kernel_rfl) (fun _ _ _ h => h) (Or.inr ⟨by rfl, rfl⟩) (by assumption) ?_
                        try simp only [Act.put, List.setIfInBounds_toArray, List.set_cons_zero, List.set_cons_succ]
                        refine wpAnyH_take (i := 7) (oi := { dst := some 101, op := Op.binOp BinOp.eql 39 (Operand.tmp 99) (Operand.tmp 100) 39, type := 4, pos := "law.go:236", after := #[{ on := 5, ground := Ground.data }, { on := 6, ground := Ground.data }, { on := 1, ground := Ground.guard }], guard := some (1, false) }) (v := undef) rfl (by kernel_rfl) (by kernel_rfl) (by kernel_rfl) (fun _ _ _ h => h) (Or.inr ⟨by rfl, rfl⟩) (by assumption) ?_
                        try simp only [Act.put, List.setIfInBounds_toArray, List.set_cons_zero, List.set_cons_succ]
                        refine wpAnyH_take (i := 8) (oi := { dst := some 102, op := Op.pick (Operand.tmp 95) (Operand.const (Value.bool true)) (Operand.tmp 101), type := 4, pos := "law.go:236", after := #[{ on := 1, ground := Ground.data }, { on := 7, ground := Ground.data }], guard := none }) (v := .bool true) rfl (by kernel_rfl) (by kernel_rfl) (by kernel_rfl) (fun _ _ _ h => h) (Or.inl ⟨by rfl, fun w hSw => by go_simp⟩) (by assumption) ?_
                        try simp only [Act.put, List.setIfInBounds_toArray, List.set_cons_zero, List.set_cons_succ]
                        refine wpAnyH_take (i := 9) (oi := { dst := some 17, op := Op.assign (Operand.tmp 102), type := 4, pos := "law.go:236", after := #[{ on := 8, ground := Ground.data }, { on := 1, ground := Ground.chain }, { on := 0, ground := Ground.phase }, { on := 1, ground := Ground.phase }, { on := 2, ground := Ground.phase }, { on := 3, ground := Ground.phase }, { on := 4, ground := Ground.phase }, { on := 5, ground := Ground.phase }, { on := 6, ground := Ground.phase }, { on := 7, ground := Ground.phase }, { on := 8, ground := Ground.phase }], guard := none }) (v := .bool true) rfl (by kernel_rfl) (by kernel_rfl) (by kernel_rfl) (fun _ _ _ h => h) (Or.inl ⟨by rfl, fun w hSw => by go_simp⟩) (by assumption) ?_
                        try simp only [Act.put, List.setIfInBounds_toArray, List.set_cons_zero, List.set_cons_succ]
                        refine wpAnyH_done (by kernel_rfl) ?_ _
                        try unfold NoPanic
                        have HF := Lib.hid (HB6.out.trans (hHeld.mono HB6.out.size))
                        clear hHeld
                        go_wp2
                        go_roundw
                        case rel => exact ⟨j + 1, by omega, by rw [HZ1.out]; simp, by go_num, HF.out⟩
                        case measure => simp [intOf]; omega
                    · obtain rfl : j = nb := by omega
                      rw [← hzb]
                      have HZB : Hid (zb = (hz && !fb)) := Lib.hid (by rw [hzb]; exact HHAS.out)
                      have HMEM : Hid (decide ((a, n) ∈ bs) = (hz && !fb)) := Lib.hid (by rw [← hasB_all, ← HNB.out.1]; exact HHAS.out)
                      clear hzb HHAS
                      cases hz <;> cases fb
                      · obtain rfl : zb = false := HZB.out
                        have HCN : Hid (cntB bs (F + 1) = cn) := Lib.hid (by rw [HCS.out, if_neg (fun h => of_decide_eq_false HMEM.out h.2)]; rfl)
                        go_wp2
                        go_roundw
                        case rel => exact ⟨F + 1, by omega, by first | (rw [HCN.out]; done) | (rw [HCN.out]; go_num), by go_num, HB9.out.trans (HB6.out.mono HB9.out.size)⟩
                        case measure => simp [intOf]; omega
                      · obtain rfl : zb = false := HZB.out
                        have HCN : Hid (cntB bs (F + 1) = cn) := Lib.hid (by rw [HCS.out, if_neg (fun h => of_decide_eq_false HMEM.out h.2)]; rfl)
                        go_wp2
                        go_roundw
                        case rel => exact ⟨F + 1, by omega, by first | (rw [HCN.out]; done) | (rw [HCN.out]; go_num), by go_num, HB9.out.trans (HB6.out.mono HB9.out.size)⟩
                        case measure => simp [intOf]; omega
                      · obtain rfl : zb = true := HZB.out
                        have HCN : Hid (cntB bs (F + 1) = cn + 1) := Lib.hid (by rw [HCS.out, if_pos (by have h := of_decide_eq_true HMEM.out; simp [h])])
                        go_wp2
                        go_roundw
                        case rel => exact ⟨F + 1, by omega, by first | (rw [HCN.out]; done) | (rw [HCN.out]; go_num), by go_num, HB9.out.trans (HB6.out.mono HB9.out.size)⟩
                        case measure => simp [intOf]; omega
                      · obtain rfl : zb = false := HZB.out
                        have HCN : Hid (cntB bs (F + 1) = cn) := Lib.hid (by rw [HCS.out, if_neg (fun h => of_decide_eq_false HMEM.out h.2)]; rfl)
                        go_wp2
                        go_roundw
                        case rel => exact ⟨F + 1, by omega, by first | (rw [HCN.out]; done) | (rw [HCN.out]; go_num), by go_num, HB9.out.trans (HB6.out.mono HB9.out.size)⟩
                        case measure => simp [intOf]; omega
            · have hne : ¬ (k : Int) = (F : Int) := by omega
              have HCN : Hid (cntB bs (k + 1) = cn) := Lib.hid (by rw [HCS.out, if_neg (fun h => hFk h.1)]; rfl)
              go_wp2_with (first
                | (go_at_call 18; clear p0 p1; (with_reducible refine (CF.out _).mono ?_); rintro en w9 ⟨rfl, B9⟩; have HB9 := Lib.hid (HB8.out.trans (B9.mono HB8.out.size)); clear B9))
              go_roundw
              case rel => exact ⟨k + 1, by omega, by rw [HCN.out], by go_num, HB9.out⟩
              case measure => simp [intOf]; omega
          · obtain rfl : k = 18 := by omega
            rw [HCNT.out, ← HNB.out.1]
            have HEND := Lib.hid (HS6.out.2.2.2.1.step HQ.out)
            go_wp2
            go_ret
            exact ⟨by simp, HEND.out.b⟩
  · go_enter Try.func5, Try.ntmps5
    by_cases h8 : len0 ≤ 80
    · have hl80 : ¬ (80 : Int) < (len0 : Int) := by omega
      have hl30 : (30 : Int) < (len1 : Int) := by omega
      clear h80
      go_wp2_with (first
        | (go_at_call 8; (with_reducible refine (HAW.out w).mono ?_); rintro en w1 ⟨rfl, B1⟩; have H1 := Lib.hid B1; clear B1)
        | (go_at_call 8; (with_reducible refine (HAW.out w1).mono ?_); rintro en w2 ⟨rfl, B2⟩; have H2 := Lib.hid (H1.out.trans (B2.mono H1.out.size)); clear B2))
      go_ret
      exact ⟨rfl, H2.out⟩
    · have hl80 : (80 : Int) < (len0 : Int) := by omega
      clear h80
      go_wp2_with (first
        | (go_at_call 8; (with_reducible refine (HAW.out w).mono ?_); rintro en w1 ⟨rfl, B1⟩; have H1 := Lib.hid B1; clear B1)
        | (go_at_call 8; (with_reducible refine (HAW.out w1).mono ?_); rintro en w2 ⟨rfl, B2⟩; have H2 := Lib.hid (H1.out.trans (B2.mono H1.out.size)); clear B2))
      go_ret
      exact ⟨rfl, H2.out⟩

set_option maxRecDepth 100000 in
theorem lifted (os : Os) (started : os.Started) (H : Type) (enc : TypeId × Value → H) :
    ReturnsInHanded {} Try.checked os 5 .any (Rows.routesBlockedSpec.pre6 enc Try.prog Try.f5 Rows.routesBlockedRow.domain false) (Rows.routesBlockedSpec.post enc Try.prog Try.f5 false true false false) := by
  refine returnsInHanded_of_change (C := Try.checked) own started (by kernel_rfl) Try.func5
    (ChangeSpec.witness6 (enc := enc) (C := Try.checked) false ⟨#[], #[.slice none 0 0, .slice none 0 0], []⟩ 8 (by kernel_rfl) (by kernel_rfl) (by kernel_rfl) (by kernel_rfl)) ?_
  intro W base args ds gs before hval0 hW hcnd _
  have hval : ∀ (j : Nat) t v, Try.f5.params[j]? = some t → args[j]? = some v → Value.okWide Try.prog W .any base t v := hval0
  have hW' := hW
  obtain ⟨p, q, hA0, hV, rfl, hfz, hnd⟩ := hW
  have hA : DataW.TrodAll enc Try.prog W 0 (fun _ => true) true Try.f5.params.toList args.toList ds p := hA0
  rw [Try.params5] at hA hval
  obtain ⟨v0, vs0, d0, ds0, p0, q0, hargs, rfl, rfl, h0, r0⟩ := trodAll_cons hA
  obtain ⟨v1, vs1, d1, ds1, p1, q1, rfl, rfl, rfl, h1, r1⟩ := trodAll_cons r0
  obtain ⟨rfl, rfl, rfl⟩ := trodAll_nil r1
  obtain rfl : args = #[v0, v1] := by cases args; simp_all
  obtain ⟨rfl, rfl⟩ := trodVars_none hV
  obtain ⟨a0, len0, cap0, rfl⟩ := okWide_slice Try.underlying22 (hval 0 22 v0 rfl rfl)
  have k0 := h0
  have lt0 : ∀ x ∈ p0, x.block < W.heap.size := by obtain ⟨m, hm⟩ := k0; exact DataW.trod_lt m _ _ _ hm
  obtain ⟨z0, w0⟩ : ∃ zs, IsActs W a0 len0 cap0 zs := by
    obtain ⟨fuel, hf⟩ := h0
    obtain ⟨a, l, c, ds, hcs, hds⟩ := acts_of hf
    simp [Value.cells] at hcs
    obtain ⟨rfl, rfl, rfl⟩ := hcs
    exact ⟨ds, hds⟩
  obtain ⟨a1, len1, cap1, rfl⟩ := okWide_slice Try.underlying22 (hval 1 22 v1 rfl rfl)
  have k1 := h1
  have lt1 : ∀ x ∈ p1, x.block < W.heap.size := by obtain ⟨m, hm⟩ := k1; exact DataW.trod_lt m _ _ _ hm
  obtain ⟨z1, w1⟩ : ∃ zs, IsActs W a1 len1 cap1 zs := by
    obtain ⟨fuel, hf⟩ := h1
    obtain ⟨a, l, c, ds, hcs, hds⟩ := acts_of hf
    simp [Value.cells] at hcs
    obtain ⟨rfl, rfl, rfl⟩ := hcs
    exact ⟨ds, hds⟩
  clear hA0 hval0
  refine (walk a0 len0 cap0 z0 a1 len1 cap1 z1 W w0 w1).mono fun e W' ⟨he, bel⟩ => ?_
  subst he
  exact ⟨_, rfl, _, _, _, [], _, [], hW', trodAll_mk1 (shut_bool Try.underlying4 _), (trodAll_cons_mk (Below.trod laidOut (by kernel_rfl) (of_decide_eq_true (by kernel_rfl)) k0 bel lt0) (trodAll_cons_mk (Below.trod laidOut (by kernel_rfl) (of_decide_eq_true (by kernel_rfl)) k1 bel lt1) trodAll_mk0)), rfl, bel.frame _, fun h => by cases h⟩

theorem over : Rows.routesBlockedRow.holds Try.pinned (OpenSpec.ofChange Rows.routesBlockedSpec) :=
  OpenClaim.holds_of_wide 5 Try.f5 rfl rfl rfl rfl rfl rfl rfl ⟨rfl, rfl, rfl, rfl, rfl⟩ rfl rfl rfl rfl rfl (by kernel_rfl) Try.func5 (by kernel_rfl)
    (of_decide_eq_true (by kernel_rfl)) (by unfold Func.isWrapper; first | (rw [if_pos (by decide +kernel)]; kernel_rfl) | (rw [if_neg (by decide +kernel)]; exact ⟨rfl, rfl⟩))
    (fun os started H enc _ => lifted os started H enc)

theorem proved : Rows.RoutesBlockedSaid := over
#print axioms proved
end Go.Proofs.Ytkbhmdoichiinaa.routesBlocked
