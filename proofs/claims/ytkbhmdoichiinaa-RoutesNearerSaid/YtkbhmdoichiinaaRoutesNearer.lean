/-
  'For every input the Go function milestonelaw16.RoutesNearer returns true, and each argument reads behind the call as it read before.'
  Conditions: none but the row's own (linux/amd64, sizes of what is read within the address space).
-/
import Derived.Test.YtkbhmdoichiinaaRows
import Derived.WalkKit
import Derived.ProofKit
import Derived.OpenShut
import Derived.ShutString
import Derived.ChangeOld
import Derived.Below
import Derived.Lib.SmallJoins
import Derived.Lib.Hide
import Derived.Test.YtkbhmdoichiinaaSH
namespace Go.Proofs.Ytkbhmdoichiinaa.routesNearer
open Pre
open Ser
open Rts
open Go.ChangeShapes Go.WideShapes Go.ChangeAt Go.RowKit
open Go.ChangeMaps (open_string shut_string)
set_option linter.unusedVariables false
set_option maxRecDepth 8000
open Go.Proofs.Ytkbhmdoichiinaa.Src (row1 row2 Mk SrcAt pA pN)

theorem own : ownKnob Try.prog.godebug = none := by kernel_rfl
theorem laidOut : laidOutB Try.prog = true := by kernel_rfl

theorem best4' {f : Mk} {a m s M : Nat} (hf : ∀ a n y, f a n = some y → y.1 < 4) (hs : s < 4) : (f.best a m (s, M)).1 < 4 := by
  unfold Mk.best
  cases hx : f a m with
  | none => exact hs
  | some x =>
    simp only
    split
    · exact hs
    · exact hf _ _ _ hx
set_option maxHeartbeats 16000000 in
theorem walk (a0 : Option Addr) (len0 cap0 : Nat) (z0 : List ActD) (a1 : Option Addr) (len1 cap1 : Nat) (z1 : List ActD) (w : World) (w0 : IsActs w a0 len0 cap0 z0) (w1 : IsActs w a1 len1 cap1 z1) :
    Calls Try.prog 6 #[.slice a0 len0 cap0, .slice a1 len1 cap1] w fun e w' => e = .returned (.bool true) ∧ Below w.heap.size w w' := by
  have HAW : Hid (∀ W, Calls Try.prog 8 #[] W fun e w' => e = .returned (.bool true) ∧ Below W.heap.size W w') := Lib.hid awake_any
  have HY := Lib.hid w0
  have HY1 := Lib.hid w1
  clear w0 w1
  by_cases h80 : len0 ≤ 80 ∧ len1 ≤ 30
  · obtain ⟨h80, h30⟩ := h80
    have hl80 : ¬ (80 : Int) < (len0 : Int) := by omega
    have hl30 : ¬ (30 : Int) < (len1 : Int) := by omega
    go_enter Try.func6, Try.ntmps6
    go_wp2_with (first
      | (go_at_call 8; (with_reducible refine (HAW.out _).mono ?_); rintro en w1 ⟨rfl, B1⟩; have H1 := Lib.hid B1; clear B1)
      | (go_at_call 9; (with_reducible refine (new_any _).mono ?_); rintro en w2 ⟨rfl, R2, B2⟩; have HQ0 := Lib.hid (And.intro (H1.out.trans (B2.mono H1.out.size)) (rts_low' R2 H1.out.size)); clear R2 B2))
    have HP0 : Hid (LW w (w2.alloc (.cells #[.slice none 0 0, .int .u64 0] 29)) w1.heap.size w2.heap.size [] (.slice none 0 0) (.slice none 0 0) [] 0) := Lib.hid (LW.mk (HQ0.out.1.alloc HQ0.out.1.size _) (PL.start (HQ0.out.2.kept ((Below.refl _ _).alloc (Nat.le_refl _) _))) (heap_alloc_new w2 _) HQ0.out.1.size)
    clear HQ0 H1
    generalize w2.alloc _ = w3 at *
    generalize w1.heap.size = q at *
    generalize w2.heap.size = g at *
    go_loopw [7] (fun iv wr => ∃ k : Nat, k ≤ len0 ∧ iv = .int .i64 k ∧ ∃ (L l : List E) (v : Value) (A : Option Addr) (c now : Nat), Hid (LW w wr q g L v (.slice A l.length c) l now) ∧ Hid (Inv L l now ∧ l.length ≤ k ∧ now ≤ 40 * k ∧ ∀ e ∈ L, e.s < 4)) (fun iv _ => len0 - (intOf iv).toNat)
    case atStart => exact ⟨0, Nat.zero_le _, rfl, [], [], _, none, 0, 0, HP0.out, Inv.nil 0, Nat.le_refl _, Nat.le_refl _, fun e h => by simp at h⟩
    case round =>
      obtain ⟨k, hk, rfl, L, l, v, A, c, now, HP, HI⟩ := hrel
      clear HP0
      by_cases hlt : k < len0
      · have hkz : k < z0.length := by rw [← HY.out.1]; exact hlt
        obtain ⟨b0, o0, rfl, hb0, hA0⟩ := HY.out.at' (Below.refl _ _) k hkz
        have HDO := Lib.hid hA0.ok
        have HAC : Hid (∀ W, Below w.heap.size w W → AAt W b0 (o0 + k * 5) z0[k]) := Lib.hid fun W hW => by
          obtain ⟨b1, o1, e1, -, h1⟩ := HY.out.at' hW k hkz
          injection e1 with e1; injection e1 with e1 e2 _
          subst e1 e2
          exact h1
        generalize z0[k] = d at *
        clear hA0
        go_upto_region 8 with (fail)
        have HPd := Lib.hid (HP.out.step ((Below.refl wr.heap.size wr).drew))
        refine wp_region_noPanic ?_
        refine wp_region_held_drew (S := fun y : World => Below w.heap.size w y) (by kernel_rfl) HPd.out.b (fun hHeld => ?_)
        generalize wr.drew = wd at *
        refine wpAnyH_take (i := 0) (oi := { dst := some 37, op := Op.move (Operand.tmp 5), type := 24, pos := "law.go:256", after := #[], guard := none }) (v := .pointer (some ⟨q, 0, none⟩)) rfl (by kernel_rfl) (by kernel_rfl) (by kernel_rfl) (fun _ _ _ h => h) (Or.inl ⟨by rfl, fun w hSw => by go_simp⟩) (by assumption) ?_
        try simp only [Act.put, List.setIfInBounds_toArray, List.set_cons_zero, List.set_cons_succ]
        refine wpAnyH_take (i := 2) (oi := { dst := some 39, op := Op.move (Operand.tmp 0), type := 22, pos := "law.go:256", after := #[], guard := none }) (v := .slice (some ⟨b0, o0, none⟩) len0 cap0) rfl (by kernel_rfl) (by kernel_rfl) (by kernel_rfl) (fun _ _ _ h => h) (Or.inl ⟨by rfl, fun w hSw => by go_simp⟩) (by assumption) ?_
        try simp only [Act.put, List.setIfInBounds_toArray, List.set_cons_zero, List.set_cons_succ]
        refine wpAnyH_take (i := 3) (oi := { dst := some 40, op := Op.move (Operand.tmp 7), type := 3, pos := "law.go:256", after := #[], guard := none }) (v := .int .i64 (k : Int)) rfl (by kernel_rfl) (by kernel_rfl) (by kernel_rfl) (fun _ _ _ h => h) (Or.inl ⟨by rfl, fun w hSw => by go_simp⟩) (by assumption) ?_
        try simp only [Act.put, List.setIfInBounds_toArray, List.set_cons_zero, List.set_cons_succ]
        refine wpAnyH_take (i := 4) (oi := { dst := some 41, op := Op.indexAddr 22 (Operand.tmp 39) (Operand.tmp 40), type := 0, pos := "law.go:256", after := #[{ on := 2, ground := Ground.data }, { on := 3, ground := Ground.data }], guard := none }) (v := .pointer (some ⟨b0, o0 + k * 5, none⟩)) rfl (by kernel_rfl) (by kernel_rfl) (by kernel_rfl) (fun _ _ _ h => h) (Or.inl ⟨by rfl, fun w hSw => by go_simp⟩) (by assumption) ?_
        try simp only [Act.put, List.setIfInBounds_toArray, List.set_cons_zero, List.set_cons_succ]
        refine wpAnyH_take (i := 5) (oi := { dst := some 42, op := Op.load 34 (Operand.tmp 41), type := 34, pos := "law.go:256", after := #[{ on := 4, ground := Ground.data }], guard := none }) (v := .agg #[.int .u8 (d.K : Int), .int .u8 (d.B : Int), .int .u8 (d.P : Int), .int .u8 (d.Q : Int), .int .u16 (d.M : Int)]) rfl (by kernel_rfl) (by kernel_rfl) (by kernel_rfl) (fun _ _ _ h => h) (Or.inl ⟨by rfl, fun w hSw => by obtain ⟨k0, k1, k2, k3, k4, -⟩ := HAC.out _ hSw; go_simp⟩) (by assumption) ?_
        try simp only [Act.put, List.setIfInBounds_toArray, List.set_cons_zero, List.set_cons_succ]
        refine wpAnyH_ready (rs := [1]) (by kernel_rfl) (by simp) ?_
        refine (AllReadyH.cons (o := { dst := some 38, op := Op.load 29 (Operand.tmp 6), type := 29, pos := "law.go:256", after := #[], guard := none }) rfl (fun K hK => ?_) AllReadyH.nil)
        obtain ⟨t0, t1, -⟩ := row2 HPd.out.t
        go_simp
        have hS2 := hHeld
        refine hK.out _ _ hS2 (fun hHeld2 => ?_)
        clear hK K hHeld hS2
        have hHeld := hHeld2
        clear hHeld2
        try simp only [Act.put, List.setIfInBounds_toArray, List.set_cons_zero, List.set_cons_succ]
        clear t0 t1
        refine wpAnyH_ready (rs := [6]) (by kernel_rfl) (by simp) ?_
        refine (AllReadyH.cons (o := { dst := some 43, op := Op.call { callee := Callee.value (Operand.func 10), args := #[Operand.tmp 37, Operand.tmp 38, Operand.tmp 42], argTypes := #[24, 29, 34] }, type := 30, pos := "law.go:256", after := #[{ on := 0, ground := Ground.data }, { on := 1, ground := Ground.data }, { on := 5, ground := Ground.data }], guard := none }) rfl (fun K hK => ?_) AllReadyH.nil)
        go_simp
        with_reducible refine (do_any wd w.heap.size q v L l A c l.length now d rfl HPd.out.p HI.out.1 (by have := HI.out.2.1; omega) HDO.out (by have := HI.out.2.2.1; omega)).mono ?_
        rintro en wn ⟨v5, A5, c5, rfl, P5, F5, -⟩
        have HF := Lib.hid (HPd.out.fr (w' := wn) P5 F5)
        have HD := Lib.hid (HPd.out.done (now' := d.time now) P5 F5)
        have hS2 := HF.out.1
        clear P5 F5
        refine hK.out _ _ hS2 (fun hHeld2 => ?_)
        clear hK K hHeld hS2
        have hHeld := hHeld2
        clear hHeld2
        try simp only [Act.put, List.setIfInBounds_toArray, List.set_cons_zero, List.set_cons_succ]
        refine wpAnyH_take (i := 7) (oi := { dst := some 36, op := Op.move (Operand.tmp 43), type := 30, pos := "law.go:256", after := #[{ on := 6, ground := Ground.data }], guard := none }) (v := .tuple #[.agg #[.slice A5 (d.lst now l).length c5, .int .u64 (d.time now : Int)], .bool true]) rfl (by kernel_rfl) (by kernel_rfl) (by kernel_rfl) (fun _ _ _ h => h) (Or.inl ⟨by rfl, fun w hSw => by go_simp⟩) (by assumption) ?_
        try simp only [Act.put, List.setIfInBounds_toArray, List.set_cons_zero, List.set_cons_succ]
        refine wpAnyH_take (i := 8) (oi := { dst := some 44, op := Op.extract (Operand.tmp 36) 0, type := 29, pos := "law.go:256", after := #[{ on := 7, ground := Ground.data }], guard := none }) (v := .agg #[.slice A5 (d.lst now l).length c5, .int .u64 (d.time now : Int)]) rfl (by kernel_rfl) (by kernel_rfl) (by kernel_rfl) (fun _ _ _ h => h) (Or.inl ⟨by rfl, fun w hSw => by go_simp⟩) (by assumption) ?_
        try simp only [Act.put, List.setIfInBounds_toArray, List.set_cons_zero, List.set_cons_succ]
        refine wpAnyH_take (i := 9) (oi := { dst := some 45, op := Op.extract (Operand.tmp 36) 1, type := 4, pos := "law.go:256", after := #[{ on := 7, ground := Ground.data }, { on := 10, ground := Ground.gcOnly Departure.lateStores }], guard := none }) (v := .bool true) rfl (by kernel_rfl) (by kernel_rfl) (by kernel_rfl) (fun _ _ _ h => h) (Or.inl ⟨by rfl, fun w hSw => by go_simp⟩) (by assumption) ?_
        try simp only [Act.put, List.setIfInBounds_toArray, List.set_cons_zero, List.set_cons_succ]
        refine wpAnyH_ready (rs := [10]) (by kernel_rfl) (by simp) ?_
        refine (AllReadyH.cons (o := { dst := none, op := Op.store 29 (Operand.tmp 6) (Operand.tmp 44), type := 0, pos := "law.go:256", after := #[{ on := 8, ground := Ground.data }, { on := 6, ground := Ground.chain }, { on := 0, ground := Ground.phase }, { on := 1, ground := Ground.phase }, { on := 2, ground := Ground.phase }, { on := 3, ground := Ground.phase }, { on := 4, ground := Ground.phase }, { on := 5, ground := Ground.phase }, { on := 6, ground := Ground.phase }, { on := 7, ground := Ground.phase }, { on := 8, ground := Ground.phase }, { on := 9, ground := Ground.textOnly Departure.lateStores }], guard := none }) rfl (fun K hK => ?_) AllReadyH.nil)
        obtain ⟨t0, t1, tf⟩ := row2 HF.out.2
        have hgl : g < wn.heap.size := (Array.getElem?_eq_some_iff.1 HF.out.2).1
        go_simp
        have hS2 := HD.out.b
        clear t0 t1 tf hgl
        generalize (wn.setCell _ _).setCell _ _ = wk at *
        refine hK.out _ _ hS2 (fun hHeld2 => ?_)
        clear hK K hHeld hS2
        have hHeld := hHeld2
        clear hHeld2
        try simp only [Act.put, List.setIfInBounds_toArray, List.set_cons_zero, List.set_cons_succ]
        refine wpAnyH_done (by kernel_rfl) ?_ _
        try unfold NoPanic
        clear hHeld HF
        have HIN := Lib.hid (ActD.inv HDO.out HI.out.1 (by have := HI.out.2.2.1; omega))
        have HTL := Lib.hid (ActD.time_le (d := d) now)
        go_wp2
        go_roundw
        case rel => exact ⟨k + 1, by omega, by go_num, _, _, v5, A5, c5, _, HD.out, HIN.out.1, by have := HIN.out.2; have := HI.out.2.1; omega, by have := HTL.out; have := HI.out.2.2.1; omega, ActD.s4 HI.out.1.up HI.out.2.2.2⟩
        case measure => simp [intOf]; omega
      · obtain rfl : k = len0 := by omega
        go_upto_region 11 with (first
          | (go_at_call 14; (with_reducible refine (lowered_any _ a1 len1 cap1 z1 (HY1.out.step HP.out.b) h30).mono ?_); rintro en w4 ⟨qs, f, cs, rfl, S4, B4, hc4, h44⟩; have HS4 := Lib.hid (And.intro S4 (And.intro (HP.out.step B4) (And.intro hc4 (And.intro h44 HP.out.b)))); clear S4 B4 hc4 h44)
          | (go_at_call 16; (with_reducible refine (costs_any _).mono ?_); rintro en w5 ⟨rfl, hw5⟩; have hB5 := (Below.refl w4.heap.size w4).alloc (Nat.le_refl _) (.cells #[.int .u16 96, .int .u16 1, .int .u16 65535, .int .u16 300, .int .u16 96, .int .u16 65534, .int .u16 10] 32); have hC5 := costs_cost w4; rw [← hw5] at hB5 hC5; have HS5 := Lib.hid (And.intro (HS4.out.1.below hB5) (And.intro (HS4.out.2.1.step hB5) hC5)); clear hB5 hC5 hw5)
          | (go_at_call 15; (with_reducible refine (select_any w5 w.heap.size q v L HS5.out.2.1.p.r HI.out.1.up HI.out.1.ok (by have := HI.out.1.len; have := HI.out.2.1; omega) wr.heap.size qs cs f HS5.out.1 _ 7 7 cfL HS5.out.2.2).mono ?_); rintro en w6 ⟨v6, rs, rfl, K6, O6, B6, hr6⟩; obtain ⟨Ar, cr, hv6, hro⟩ := O6.ros; obtain ⟨nr, hnr⟩ : ∃ nr, nr = rs.length := ⟨_, rfl⟩; rw [← hnr] at hv6; have HS6 := Lib.hid (And.intro K6 (And.intro (hv6 ▸ O6) (And.intro (HS5.out.1.below B6) (And.intro (HS5.out.2.1.step B6) (And.intro hr6 (And.intro hro (And.intro hnr (HS5.out.2.1.b.trans (B6.mono HS5.out.2.1.b.size))))))))); subst hv6; clear K6 O6 B6 hr6 hro hnr))
        obtain ⟨lo, hlo⟩ : ∃ lo, lo = wr.heap.size := ⟨_, rfl⟩
        have HLOW := Lib.hid (show w.heap.size ≤ lo by rw [hlo]; exact HS4.out.2.2.2.2.size)
        have HSR : Hid (SrcAt lo w6 qs f cs) := Lib.hid (by rw [hlo]; exact HS6.out.2.2.1)
        have HNR0 := Lib.hid HS6.out.2.2.2.2.2.2.1
        clear hlo
        go_wp2
        go_loopw [10] (fun iv wt => ∃ k : Nat, k ≤ nr ∧ iv = .int .i64 k ∧ Hid (LW w wt q g L v (.slice A l.length c) l now) ∧ Hid (GOwn 53 5 Ro.cl wt w5.heap.size (.slice Ar nr cr) rs) ∧ ∃ c' : Nat, Hid (SrcAt lo wt qs (fN f rs k) c' ∧ c' ≤ 30 + k)) (fun iv _ => nr - (intOf iv).toNat)
        case atStart => exact ⟨0, Nat.zero_le _, rfl, HS6.out.2.2.2.1, HS6.out.2.1, cs, by rw [fN_zero]; exact HSR.out, by have := HS4.out.2.2.1; omega⟩
        case round =>
          obtain ⟨k, hk, rfl, HQ, HG, c', HSQ⟩ := hrel
          clear HP HSR
          have hnr110 : nr ≤ 80 := by have := HNR0.out; have := HS6.out.2.2.2.2.1; have := HI.out.1.len; have := HI.out.2.1; omega
          by_cases hlt2 : k < nr
          · have hkr : k < rs.length := by rw [← HNR0.out]; exact hlt2
            have hsel := (HS6.out.1.mem rs[k]).1 (List.getElem_mem hkr)
            obtain ⟨e, heL, hea, hen, hrk, hfe, hsm⟩ := sel_from hsel
            obtain ⟨fi, hfl, hfe2, hix⟩ := HI.out.1.found heL
            have heo := HI.out.1.ok _ heL
            have hes4 := HI.out.2.2.2 e heL
            obtain ⟨pk, hpa, hpn⟩ := (HI.out.1.by8 e heL).2
            obtain ⟨lb, lo2, rfl, hlb, hEL⟩ := HQ.out.esl.2 fi hfl
            rw [hfe2] at hEL
            obtain ⟨Ar', cr', hvr, hrow⟩ := HG.out.ros
            obtain ⟨rb, cur, hArb, -, hcur, hRo⟩ := hrow (by omega)
            have hArr : Ar = some ⟨rb, 0, none⟩ := by
              rw [hArb] at hvr
              injection hvr
            subst hArr
            have hE := hRo k hkr
            rw [hrk] at hE
            obtain ⟨sm, hsm0⟩ : ∃ sm, sm = e.m + cfL e.b := ⟨_, rfl⟩
            have hE : RoAt wr rb (k * 5) ⟨e.a, e.n, e.b, sm, e.s⟩ := by rw [hsm0]; exact hE
            obtain ⟨y, hy⟩ : ∃ y, y = f.best e.a e.n (e.s, sm) := ⟨_, rfl⟩
            have hrt : Pre.right e.a e.n = true := by rw [hpa, hpn]; exact Src.p_right _
            have hfs : fN f rs (k + 1) = (fN f rs k).put e.a e.n ((fN f rs k).best e.a e.n (e.s, sm)) := by
              have := fN_succ (f := f) HS6.out.1.up hkr
              rw [hrk] at this
              rw [hsm0]; exact this
            have hfk : fN f rs k e.a e.n = f e.a e.n := by
              have := fN_at (f := f) HS6.out.1.up hkr
              rw [hrk] at this
              exact this
            have hbe : (fN f rs k).best e.a e.n (e.s, sm) = y := by rw [hy]; unfold Mk.best; rw [hfk]
            have hf1 : fN f rs (k + 1) e.a e.n = some y := by rw [hfs, hbe]; unfold Mk.put; rw [if_pos ⟨rfl, rfl⟩]
            have hnb : nearer (e.s : Int) (e.m : Int) (y.1 : Int) (y.2 : Int) = true := by rw [hy, hsm0]; exact near_best hfe (by omega)
            have hy4 : y.1 < 4 := by rw [hy]; exact best4' HS4.out.2.2.2.1 hes4
            have hfe' : feasE (fN f rs (k + 1)) e = true := feas_best (f := f) hf1 hnb
            have HLO : Hid (∀ W, SrcAt lo W qs (fN f rs k) c' → Calls Try.prog 22 #[.pointer (some ⟨qs, 0, none⟩), .agg #[.int .u32 (e.a : Int), .int .u8 (e.n : Int)], .agg #[.int .u16 (e.s : Int), .int .u16 (sm : Int)]] W fun en w' => en = .returned (.int .i64 0) ∧ SrcAt lo w' qs (fN f rs (k + 1)) (if (fN f rs k e.a e.n).isSome then c' else c' + 1) ∧ Src.K lo W w') := Lib.hid fun W hW => by
              rw [hfs]
              exact Src.Lower_any W qs (fN f rs k) c' hW (Nat.le_of_lt (Nat.lt_of_le_of_lt hW.1 hW.lt)) e.a e.n heo.a heo.n hrt e.s sm (by omega) (by have := HSQ.out.2; omega)
            obtain ⟨c2, hc2⟩ : ∃ c2, c2 = if (fN f rs k e.a e.n).isSome then c' else c' + 1 := ⟨_, rfl⟩
            rw [← hc2] at HLO
            have HC2 : Hid (c2 ≤ 30 + (k + 1)) := Lib.hid (by rw [hc2]; have := HSQ.out.2; split <;> omega)
            have HMK : Hid (∀ W, SrcAt lo W qs (fN f rs (k + 1)) c2 → Calls Try.prog 23 #[.pointer (some ⟨qs, 0, none⟩), .agg #[.int .u32 (e.a : Int), .int .u8 (e.n : Int)]] W fun en w' => en = .returned (.tuple #[.agg #[.int .u16 (y.1 : Int), .int .u16 (y.2 : Int)], .bool true]) ∧ Below W.heap.size W w') := Lib.hid fun W hW => by
              have := Src.Mark_any W qs _ c2 hW e.a e.n heo.a heo.n
              rw [hf1] at this
              exact this
            have HFI : Hid (∀ W, Below wr.heap.size wr W → Calls Try.prog 12 #[.agg #[.slice (some ⟨lb, lo2, none⟩) l.length c, .int .u64 (now : Int)], .agg #[.int .u32 (e.a : Int), .int .u8 (e.n : Int)], .int .i64 (e.b : Int)] W fun en w' => en = .returned (.int .i64 (fi : Int)) ∧ Below W.heap.size W w') := Lib.hid fun W hW => by
              have := lfind_any W (some ⟨lb, lo2, none⟩) l.length c now l rfl (by have := HI.out.2.1; omega) (HQ.out.esl.2.below hW) e.a e.n e.b
              rw [hix] at this
              exact this
            have HFE0 : Hid (∀ W, SrcAt lo W qs (fN f rs (k + 1)) c2 → Calls Try.prog 20 #[.pointer (some ⟨qs, 0, none⟩), .agg #[.int .u32 (e.a : Int), .int .u8 (e.n : Int)], .agg #[.int .u16 (e.s : Int), .int .u16 (e.m : Int)]] W fun en w' => en = .returned (.bool true) ∧ Below W.heap.size W w') := Lib.hid fun W hW => by
              have := Src.feas_any W qs _ c2 hW e.a e.n heo.a heo.n (e.s, e.m)
              rw [show (fN f rs (k + 1)).feas e.a e.n (e.s, e.m) = true from hfe'] at this
              exact this
            obtain ⟨y1, y2⟩ := y
            simp only at hnb hy4 HMK
            have HNR : Hid (∀ W, Calls Try.prog 24 #[.agg #[.int .u16 (e.s : Int), .int .u16 (e.m : Int)], .agg #[.int .u16 (y1 : Int), .int .u16 (y2 : Int)]] W fun en w' => en = .returned (.bool true) ∧ Below W.heap.size W w') := Lib.hid fun W => by
              have := Ser.rnearer_any (e.s : Int) (e.m : Int) (y1 : Int) (y2 : Int) (by omega) (by omega) W
              rw [hnb] at this
              exact this
            have hfi2 : (fi : Int) < (l.length : Int) := by omega
            have hfi3 : ¬ (fi : Int) < 0 := by omega
            have HRE := Lib.hid hE
            have HRB := Lib.hid (Array.getElem?_eq_some_iff.1 hcur).1
            have HRC0 := Lib.hid hcur
            have HELw := Lib.hid (And.intro hlb hEL)
            have HFL : Hid (∃ h : fi < l.length, l[fi] = e) := Lib.hid ⟨hfl, hfe2⟩
            clear hsel heL hea hen hrk hfe hsm hfl hfe2 hix heo hes4 hpa hpn hlb hEL hvr hrow hArb hcur hRo hE hsm0 hy hrt hfs hfk hbe hf1 hnb hy4 hfe' hc2
            go_upto_region 14 with (fail)
            refine wp_region_noPanic ?_
            refine wp_region_held_drew (S := fun y : World => Below wr.heap.size wr y) (by kernel_rfl) ((Below.refl _ _).drew) (fun hHeld => ?_)
            generalize wr.drew = wd at *
            refine wpAnyH_take (i := 0) (oi := { dst := some 58, op := Op.load 29 (Operand.tmp 6), type := 29, pos := "law.go:261", after := #[], guard := none }) (v := .agg #[.slice (some ⟨lb, lo2, none⟩) l.length c, .int .u64 (now : Int)]) rfl (by kernel_rfl) (by kernel_rfl) (by kernel_rfl) (fun _ _ _ h => h) (Or.inl ⟨by rfl, fun w hSw => by obtain ⟨p0, p1, -⟩ := row2 (brow hSw HQ.out.t); go_simp⟩) (by assumption) ?_
            try simp only [Act.put, List.setIfInBounds_toArray, List.set_cons_zero, List.set_cons_succ]
            refine wpAnyH_take (i := 1) (oi := { dst := some 59, op := Op.move (Operand.tmp 9), type := 48, pos := "law.go:261", after := #[], guard := none }) (v := .slice (some ⟨rb, 0, none⟩) nr cr) rfl (by kernel_rfl) (by kernel_rfl) (by kernel_rfl) (fun _ _ _ h => h) (Or.inl ⟨by rfl, fun w hSw => by go_simp⟩) (by assumption) ?_
            try simp only [Act.put, List.setIfInBounds_toArray, List.set_cons_zero, List.set_cons_succ]
            refine wpAnyH_take (i := 2) (oi := { dst := some 60, op := Op.move (Operand.tmp 10), type := 3, pos := "law.go:261", after := #[], guard := none }) (v := .int .i64 (k : Int)) rfl (by kernel_rfl) (by kernel_rfl) (by kernel_rfl) (fun _ _ _ h => h) (Or.inl ⟨by rfl, fun w hSw => by go_simp⟩) (by assumption) ?_
            try simp only [Act.put, List.setIfInBounds_toArray, List.set_cons_zero, List.set_cons_succ]
            refine wpAnyH_take (i := 3) (oi := { dst := some 61, op := Op.indexAddr 48 (Operand.tmp 59) (Operand.tmp 60), type := 0, pos := "law.go:261", after := #[{ on := 1, ground := Ground.data }, { on := 2, ground := Ground.data }], guard := none }) (v := .pointer (some ⟨rb, k * 5, none⟩)) rfl (by kernel_rfl) (by kernel_rfl) (by kernel_rfl) (fun _ _ _ h => h) (Or.inl ⟨by rfl, fun w hSw => by go_simp⟩) (by assumption) ?_
            try simp only [Act.put, List.setIfInBounds_toArray, List.set_cons_zero, List.set_cons_succ]
            refine wpAnyH_take (i := 4) (oi := { dst := some 62, op := Op.fieldAddr 53 (Operand.tmp 61) 0, type := 0, pos := "law.go:261", after := #[{ on := 3, ground := Ground.data }], guard := none }) (v := .pointer (some ⟨rb, k * 5, none⟩)) rfl (by kernel_rfl) (by kernel_rfl) (by kernel_rfl) (fun _ _ _ h => h) (Or.inl ⟨by rfl, fun w hSw => by go_simp⟩) (by assumption) ?_
            try simp only [Act.put, List.setIfInBounds_toArray, List.set_cons_zero, List.set_cons_succ]
            refine wpAnyH_take (i := 5) (oi := { dst := some 63, op := Op.load 39 (Operand.tmp 62), type := 39, pos := "law.go:261", after := #[{ on := 4, ground := Ground.data }], guard := none }) (v := .agg #[.int .u32 (e.a : Int), .int .u8 (e.n : Int)]) rfl (by kernel_rfl) (by kernel_rfl) (by kernel_rfl) (fun _ _ _ h => h) (Or.inl ⟨by rfl, fun w hSw => by obtain ⟨k0, k1, k2, k3, k4⟩ := HRE.out.keep (hSw.block rb HRB.out); go_simp⟩) (by assumption) ?_
            try simp only [Act.put, List.setIfInBounds_toArray, List.set_cons_zero, List.set_cons_succ]
            refine wpAnyH_take (i := 6) (oi := { dst := some 64, op := Op.move (Operand.tmp 9), type := 48, pos := "law.go:261", after := #[], guard := none }) (v := .slice (some ⟨rb, 0, none⟩) nr cr) rfl (by kernel_rfl) (by kernel_rfl) (by kernel_rfl) (fun _ _ _ h => h) (Or.inl ⟨by rfl, fun w hSw => by go_simp⟩) (by assumption) ?_
            try simp only [Act.put, List.setIfInBounds_toArray, List.set_cons_zero, List.set_cons_succ]
            refine wpAnyH_take (i := 7) (oi := { dst := some 65, op := Op.move (Operand.tmp 10), type := 3, pos := "law.go:261", after := #[], guard := none }) (v := .int .i64 (k : Int)) rfl (by kernel_rfl) (by kernel_rfl) (by kernel_rfl) (fun _ _ _ h => h) (Or.inl ⟨by rfl, fun w hSw => by go_simp⟩) (by assumption) ?_
            try simp only [Act.put, List.setIfInBounds_toArray, List.set_cons_zero, List.set_cons_succ]
            refine wpAnyH_take (i := 8) (oi := { dst := some 66, op := Op.indexAddr 48 (Operand.tmp 64) (Operand.tmp 65), type := 0, pos := "law.go:261", after := #[{ on := 6, ground := Ground.data }, { on := 7, ground := Ground.data }], guard := none }) (v := .pointer (some ⟨rb, k * 5, none⟩)) rfl (by kernel_rfl) (by kernel_rfl) (by kernel_rfl) (fun _ _ _ h => h) (Or.inl ⟨by rfl, fun w hSw => by go_simp⟩) (by assumption) ?_
            try simp only [Act.put, List.setIfInBounds_toArray, List.set_cons_zero, List.set_cons_succ]
            refine wpAnyH_take (i := 9) (oi := { dst := some 67, op := Op.fieldAddr 53 (Operand.tmp 66) 1, type := 0, pos := "law.go:261", after := #[{ on := 8, ground := Ground.data }], guard := none }) (v := .pointer (some ⟨rb, k * 5 + 2, none⟩)) rfl (by kernel_rfl) (by kernel_rfl) (by kernel_rfl) (fun _ _ _ h => h) (Or.inl ⟨by rfl, fun w hSw => by go_simp⟩) (by assumption) ?_
            try simp only [Act.put, List.setIfInBounds_toArray, List.set_cons_zero, List.set_cons_succ]
            refine wpAnyH_take (i := 10) (oi := { dst := some 68, op := Op.load 3 (Operand.tmp 67), type := 3, pos := "law.go:261", after := #[{ on := 9, ground := Ground.data }], guard := none }) (v := .int .i64 (e.b : Int)) rfl (by kernel_rfl) (by kernel_rfl) (by kernel_rfl) (fun _ _ _ h => h) (Or.inl ⟨by rfl, fun w hSw => by obtain ⟨k0, k1, k2, k3, k4⟩ := HRE.out.keep (hSw.block rb HRB.out); go_simp⟩) (by assumption) ?_
            try simp only [Act.put, List.setIfInBounds_toArray, List.set_cons_zero, List.set_cons_succ]
            refine wpAnyH_ready (rs := [11]) (by kernel_rfl) (by simp) ?_
            refine AllReadyH.cons (o := { dst := some 69, op := Op.call { callee := Callee.value (Operand.func 12), args := #[Operand.tmp 58, Operand.tmp 63, Operand.tmp 68], argTypes := #[29, 39, 3] }, type := 3, pos := "law.go:261", after := #[{ on := 0, ground := Ground.data }, { on := 5, ground := Ground.data }, { on := 10, ground := Ground.data }], guard := none }) rfl (fun K hK => ?_) AllReadyH.nil
            go_simp
            with_reducible refine (HFI.out _ hHeld).mono ?_
            rintro en wn ⟨rfl, hB⟩
            have hS2 := hHeld.trans (hB.mono hHeld.size)
            refine hK.out _ _ (hS2) (fun hHeld2 => ?_)
            clear hK K hHeld
            have hHeld := hHeld2
            clear hHeld2
            try simp only [Act.put, List.setIfInBounds_toArray, List.set_cons_zero, List.set_cons_succ]
            clear hB hS2 wd
            generalize wn = wd at *
            refine wpAnyH_take (i := 12) (oi := { dst := some 11, op := Op.assign (Operand.tmp 69), type := 3, pos := "law.go:261", after := #[{ on := 11, ground := Ground.data }, { on := 11, ground := Ground.chain }, { on := 0, ground := Ground.phase }, { on := 1, ground := Ground.phase }, { on := 2, ground := Ground.phase }, { on := 3, ground := Ground.phase }, { on := 4, ground := Ground.phase }, { on := 5, ground := Ground.phase }, { on := 6, ground := Ground.phase }, { on := 7, ground := Ground.phase }, { on := 8, ground := Ground.phase }, { on := 9, ground := Ground.phase }, { on := 10, ground := Ground.phase }, { on := 11, ground := Ground.phase }], guard := none }) (v := .int .i64 (fi : Int)) rfl (by kernel_rfl) (by kernel_rfl) (by kernel_rfl) (fun _ _ _ h => h) (Or.inl ⟨by rfl, fun w hSw => by go_simp⟩) (by assumption) ?_
            try simp only [Act.put, List.setIfInBounds_toArray, List.set_cons_zero, List.set_cons_succ]
            refine wpAnyH_done (by kernel_rfl) ?_ _
            try unfold NoPanic
            generalize wd = wq at *
            have HWQ := Lib.hid hHeld
            clear hHeld
            have HQq := Lib.hid (HQ.out.step HWQ.out.drew)
            have HGq := Lib.hid (HG.out.kept HWQ.out.drew)
            have HSQq := Lib.hid (HSQ.out.1.below HWQ.out.drew)
            have HRC := Lib.hid (brow HWQ.out HRC0.out)
            have HRE2 : Hid (RoAt wq rb (k * 5) ⟨e.a, e.n, e.b, sm, e.s⟩) := Lib.hid (HRE.out.keep (HWQ.out.block rb HRB.out))
            have HELq := Lib.hid (And.intro (Nat.lt_of_lt_of_le HELw.out.1 HWQ.out.size) (HELw.out.2.keep (HWQ.out.block lb HELw.out.1)))
            go_upto_region 17 with (fail)
            refine wp_region_noPanic ?_
            refine wp_region_held_drew (S := fun y : World => y.heap[rb]? = some (.cells cur 53 (0, 0))) (by kernel_rfl) HRC.out (fun hHeld => ?_)
            generalize wq.drew = wd at *
            have HLW := Lib.hid (HLO.out wd HSQq.out)
            refine wpAnyH_take (i := 0) (oi := { dst := some 72, op := Op.move (Operand.tmp 8), type := 46, pos := "law.go:265", after := #[], guard := none }) (v := .pointer (some ⟨qs, 0, none⟩)) rfl (by kernel_rfl) (by kernel_rfl) (by kernel_rfl) (fun _ _ _ h => h) (Or.inl ⟨by rfl, fun w hSw => by go_simp⟩) (by assumption) ?_
            try simp only [Act.put, List.setIfInBounds_toArray, List.set_cons_zero, List.set_cons_succ]
            refine wpAnyH_take (i := 1) (oi := { dst := some 73, op := Op.move (Operand.tmp 9), type := 48, pos := "law.go:265", after := #[], guard := none }) (v := .slice (some ⟨rb, 0, none⟩) nr cr) rfl (by kernel_rfl) (by kernel_rfl) (by kernel_rfl) (fun _ _ _ h => h) (Or.inl ⟨by rfl, fun w hSw => by go_simp⟩) (by assumption) ?_
            try simp only [Act.put, List.setIfInBounds_toArray, List.set_cons_zero, List.set_cons_succ]
            refine wpAnyH_take (i := 2) (oi := { dst := some 74, op := Op.move (Operand.tmp 10), type := 3, pos := "law.go:265", after := #[], guard := none }) (v := .int .i64 (k : Int)) rfl (by kernel_rfl) (by kernel_rfl) (by kernel_rfl) (fun _ _ _ h => h) (Or.inl ⟨by rfl, fun w hSw => by go_simp⟩) (by assumption) ?_
            try simp only [Act.put, List.setIfInBounds_toArray, List.set_cons_zero, List.set_cons_succ]
            refine wpAnyH_take (i := 3) (oi := { dst := some 75, op := Op.indexAddr 48 (Operand.tmp 73) (Operand.tmp 74), type := 0, pos := "law.go:265", after := #[{ on := 1, ground := Ground.data }, { on := 2, ground := Ground.data }], guard := none }) (v := .pointer (some ⟨rb, k * 5, none⟩)) rfl (by kernel_rfl) (by kernel_rfl) (by kernel_rfl) (fun _ _ _ h => h) (Or.inl ⟨by rfl, fun w hSw => by go_simp⟩) (by assumption) ?_
            try simp only [Act.put, List.setIfInBounds_toArray, List.set_cons_zero, List.set_cons_succ]
            refine wpAnyH_take (i := 4) (oi := { dst := some 76, op := Op.fieldAddr 53 (Operand.tmp 75) 0, type := 0, pos := "law.go:265", after := #[{ on := 3, ground := Ground.data }], guard := none }) (v := .pointer (some ⟨rb, k * 5, none⟩)) rfl (by kernel_rfl) (by kernel_rfl) (by kernel_rfl) (fun _ _ _ h => h) (Or.inl ⟨by rfl, fun w hSw => by go_simp⟩) (by assumption) ?_
            try simp only [Act.put, List.setIfInBounds_toArray, List.set_cons_zero, List.set_cons_succ]
            refine wpAnyH_take (i := 5) (oi := { dst := some 77, op := Op.load 39 (Operand.tmp 76), type := 39, pos := "law.go:265", after := #[{ on := 4, ground := Ground.data }], guard := none }) (v := .agg #[.int .u32 (e.a : Int), .int .u8 (e.n : Int)]) rfl (by kernel_rfl) (by kernel_rfl) (by kernel_rfl) (fun _ _ _ h => h) (Or.inl ⟨by rfl, fun w hSw => by obtain ⟨k0, k1, k2, k3, k4⟩ := HRE2.out.keep (hSw.trans HRC.out.symm); go_simp⟩) (by assumption) ?_
            try simp only [Act.put, List.setIfInBounds_toArray, List.set_cons_zero, List.set_cons_succ]
            refine wpAnyH_take (i := 6) (oi := { dst := some 78, op := Op.move (Operand.tmp 9), type := 48, pos := "law.go:265", after := #[], guard := none }) (v := .slice (some ⟨rb, 0, none⟩) nr cr) rfl (by kernel_rfl) (by kernel_rfl) (by kernel_rfl) (fun _ _ _ h => h) (Or.inl ⟨by rfl, fun w hSw => by go_simp⟩) (by assumption) ?_
            try simp only [Act.put, List.setIfInBounds_toArray, List.set_cons_zero, List.set_cons_succ]
            refine wpAnyH_take (i := 7) (oi := { dst := some 79, op := Op.move (Operand.tmp 10), type := 3, pos := "law.go:265", after := #[], guard := none }) (v := .int .i64 (k : Int)) rfl (by kernel_rfl) (by kernel_rfl) (by kernel_rfl) (fun _ _ _ h => h) (Or.inl ⟨by rfl, fun w hSw => by go_simp⟩) (by assumption) ?_
            try simp only [Act.put, List.setIfInBounds_toArray, List.set_cons_zero, List.set_cons_succ]
            refine wpAnyH_take (i := 8) (oi := { dst := some 80, op := Op.indexAddr 48 (Operand.tmp 78) (Operand.tmp 79), type := 0, pos := "law.go:265", after := #[{ on := 6, ground := Ground.data }, { on := 7, ground := Ground.data }], guard := none }) (v := .pointer (some ⟨rb, k * 5, none⟩)) rfl (by kernel_rfl) (by kernel_rfl) (by kernel_rfl) (fun _ _ _ h => h) (Or.inl ⟨by rfl, fun w hSw => by go_simp⟩) (by assumption) ?_
            try simp only [Act.put, List.setIfInBounds_toArray, List.set_cons_zero, List.set_cons_succ]
            refine wpAnyH_take (i := 9) (oi := { dst := some 81, op := Op.fieldAddr 53 (Operand.tmp 80) 3, type := 0, pos := "law.go:265", after := #[{ on := 8, ground := Ground.data }], guard := none }) (v := .pointer (some ⟨rb, k * 5 + 4, none⟩)) rfl (by kernel_rfl) (by kernel_rfl) (by kernel_rfl) (fun _ _ _ h => h) (Or.inl ⟨by rfl, fun w hSw => by go_simp⟩) (by assumption) ?_
            try simp only [Act.put, List.setIfInBounds_toArray, List.set_cons_zero, List.set_cons_succ]
            refine wpAnyH_take (i := 10) (oi := { dst := some 82, op := Op.load 32 (Operand.tmp 81), type := 32, pos := "law.go:265", after := #[{ on := 9, ground := Ground.data }], guard := none }) (v := .int .u16 (e.s : Int)) rfl (by kernel_rfl) (by kernel_rfl) (by kernel_rfl) (fun _ _ _ h => h) (Or.inl ⟨by rfl, fun w hSw => by obtain ⟨k0, k1, k2, k3, k4⟩ := HRE2.out.keep (hSw.trans HRC.out.symm); go_simp⟩) (by assumption) ?_
            try simp only [Act.put, List.setIfInBounds_toArray, List.set_cons_zero, List.set_cons_succ]
            refine wpAnyH_take (i := 11) (oi := { dst := some 83, op := Op.move (Operand.tmp 9), type := 48, pos := "law.go:265", after := #[], guard := none }) (v := .slice (some ⟨rb, 0, none⟩) nr cr) rfl (by kernel_rfl) (by kernel_rfl) (by kernel_rfl) (fun _ _ _ h => h) (Or.inl ⟨by rfl, fun w hSw => by go_simp⟩) (by assumption) ?_
            try simp only [Act.put, List.setIfInBounds_toArray, List.set_cons_zero, List.set_cons_succ]
            refine wpAnyH_take (i := 12) (oi := { dst := some 84, op := Op.move (Operand.tmp 10), type := 3, pos := "law.go:265", after := #[], guard := none }) (v := .int .i64 (k : Int)) rfl (by kernel_rfl) (by kernel_rfl) (by kernel_rfl) (fun _ _ _ h => h) (Or.inl ⟨by rfl, fun w hSw => by go_simp⟩) (by assumption) ?_
            try simp only [Act.put, List.setIfInBounds_toArray, List.set_cons_zero, List.set_cons_succ]
            refine wpAnyH_take (i := 13) (oi := { dst := some 85, op := Op.indexAddr 48 (Operand.tmp 83) (Operand.tmp 84), type := 0, pos := "law.go:265", after := #[{ on := 11, ground := Ground.data }, { on := 12, ground := Ground.data }], guard := none }) (v := .pointer (some ⟨rb, k * 5, none⟩)) rfl (by kernel_rfl) (by kernel_rfl) (by kernel_rfl) (fun _ _ _ h => h) (Or.inl ⟨by rfl, fun w hSw => by go_simp⟩) (by assumption) ?_
            try simp only [Act.put, List.setIfInBounds_toArray, List.set_cons_zero, List.set_cons_succ]
            refine wpAnyH_take (i := 14) (oi := { dst := some 86, op := Op.fieldAddr 53 (Operand.tmp 85) 2, type := 0, pos := "law.go:265", after := #[{ on := 13, ground := Ground.data }], guard := none }) (v := .pointer (some ⟨rb, k * 5 + 3, none⟩)) rfl (by kernel_rfl) (by kernel_rfl) (by kernel_rfl) (fun _ _ _ h => h) (Or.inl ⟨by rfl, fun w hSw => by go_simp⟩) (by assumption) ?_
            try simp only [Act.put, List.setIfInBounds_toArray, List.set_cons_zero, List.set_cons_succ]
            refine wpAnyH_take (i := 15) (oi := { dst := some 87, op := Op.load 32 (Operand.tmp 86), type := 32, pos := "law.go:265", after := #[{ on := 14, ground := Ground.data }], guard := none }) (v := .int .u16 (sm : Int)) rfl (by kernel_rfl) (by kernel_rfl) (by kernel_rfl) (fun _ _ _ h => h) (Or.inl ⟨by rfl, fun w hSw => by obtain ⟨k0, k1, k2, k3, k4⟩ := HRE2.out.keep (hSw.trans HRC.out.symm); go_simp⟩) (by assumption) ?_
            try simp only [Act.put, List.setIfInBounds_toArray, List.set_cons_zero, List.set_cons_succ]
            refine wpAnyH_take (i := 16) (oi := { dst := some 88, op := Op.build 41 #[(0, Operand.tmp 82), (1, Operand.tmp 87)], type := 41, pos := "law.go:265", after := #[{ on := 10, ground := Ground.data }, { on := 15, ground := Ground.data }], guard := none }) (v := .agg #[.int .u16 (e.s : Int), .int .u16 (sm : Int)]) rfl (by kernel_rfl) (by kernel_rfl) (by kernel_rfl) (fun _ _ _ h => h) (Or.inl ⟨by rfl, fun w hSw => by go_simp⟩) (by assumption) ?_
            try simp only [Act.put, List.setIfInBounds_toArray, List.set_cons_zero, List.set_cons_succ]
            refine wpAnyH_ready (rs := [17]) (by kernel_rfl) (by simp) ?_
            refine (AllReadyH.cons (o := { dst := some 89, op := Op.call { callee := Callee.value (Operand.func 22), args := #[Operand.tmp 72, Operand.tmp 77, Operand.tmp 88], argTypes := #[46, 39, 41] }, type := 61, pos := "law.go:265", after := #[{ on := 0, ground := Ground.data }, { on := 5, ground := Ground.data }, { on := 16, ground := Ground.data }], guard := none }) rfl (fun K hK => ?_) AllReadyH.nil)
            go_simp
            with_reducible refine HLW.out.mono ?_
            rintro en wn ⟨rfl, S7, K7⟩
            have hS2 := K7.cells _ _ _ _ hHeld (by decide)
            have HK7 := Lib.hid (And.intro S7 K7)
            clear S7 K7
            refine hK.out _ _ hS2 (fun hHeld2 => ?_)
            clear hK K hHeld hS2
            have hHeld := hHeld2
            clear hHeld2
            try simp only [Act.put, List.setIfInBounds_toArray, List.set_cons_zero, List.set_cons_succ]
            refine wpAnyH_take (i := 18) (oi := { dst := some 90, op := Op.binOp BinOp.neq 61 (Operand.tmp 89) (Operand.const (Value.int IntKind.i64 0)) 61, type := 4, pos := "law.go:265", after := #[{ on := 17, ground := Ground.data }], guard := none }) (v := .bool false) rfl (by kernel_rfl) (by kernel_rfl) (by kernel_rfl) (fun _ _ _ h => h) (Or.inl ⟨by rfl, fun w hSw => by go_simp⟩) (by assumption) ?_
            try simp only [Act.put, List.setIfInBounds_toArray, List.set_cons_zero, List.set_cons_succ]
            refine wpAnyH_done (by kernel_rfl) ?_ _
            try unfold NoPanic
            have HQ2 := Lib.hid (HQq.out.mark HK7.out.2 HLOW.out)
            have HG2 := Lib.hid (HGq.out.mark HK7.out.2)
            have HS2 := Lib.hid HK7.out.1
            have HRB2 := Lib.hid hHeld
            have HRE4 := Lib.hid (HRE2.out.keep (hHeld.trans HRC.out.symm))
            have HEL4 : Hid (lb < wn.heap.size ∧ EAt wn lb (lo2 + fi * 7) e) := Lib.hid (by
              obtain ⟨h1, h2⟩ := HFL.out
              obtain ⟨lb', lo', he', hl', hE'⟩ := HQ2.out.esl.2 fi h1
              injection he' with he'; injection he' with e1 e2
              subst e1 e2
              rw [h2] at hE'
              exact ⟨hl', hE'⟩)
            clear HK7 hHeld HELq HELw HRE HRC HRC0 HRE2 HWQ HSQ HSQq HQq HGq HLO HFI
            obtain ⟨k0, k1, -, -, -⟩ := HRE4.out
            go_upto_region 20 with (first
              | (go_at_call 23; clear k0 k1; (with_reducible refine (HMK.out _ HS2.out).mono ?_); rintro en w7 ⟨rfl, B7⟩; have H7 := Lib.hid B7; clear B7))
            have HB8 := Lib.hid (H7.out.alloc H7.out.size (.cells #[.int .u16 (y1 : Int), .int .u16 (y2 : Int)] 41))
            have HM2 := Lib.hid (heap_alloc_new w7 (.cells #[.int .u16 (y1 : Int), .int .u16 (y2 : Int)] 41))
            clear H7
            generalize w7.alloc _ = wk at *
            generalize w7.heap.size = mb at *
            have HT2 := Lib.hid (brow HB8.out HQ2.out.t)
            have HRB3 := Lib.hid (Nat.lt_of_lt_of_le (Array.getElem?_eq_some_iff.1 HRB2.out).1 HB8.out.size)
            have HRE3 := Lib.hid (HRE4.out.keep (HB8.out.block rb (Array.getElem?_eq_some_iff.1 HRB2.out).1))
            have HEL2 := Lib.hid (And.intro (Nat.lt_of_lt_of_le HEL4.out.1 HB8.out.size) (HEL4.out.2.keep (HB8.out.block lb HEL4.out.1)))
            have HFE : Hid (∀ W, Below wk.heap.size wk W → Calls Try.prog 20 #[.pointer (some ⟨qs, 0, none⟩), .agg #[.int .u32 (e.a : Int), .int .u8 (e.n : Int)], .agg #[.int .u16 (e.s : Int), .int .u16 (e.m : Int)]] W fun en w' => en = .returned (.bool true) ∧ Below W.heap.size W w') := Lib.hid fun W hW => HFE0.out W ((HS2.out.below HB8.out).below hW)
            clear HFE0 HMK
            refine wp_region_noPanic ?_
            refine wp_region_held_drew (S := fun y : World => Below wk.heap.size wk y) (by kernel_rfl) ((Below.refl _ _).drew) (fun hHeld => ?_)
            generalize wk.drew = wd at *
            refine wpAnyH_take (i := 0) (oi := { dst := some 101, op := Op.move (Operand.tmp 13), type := 4, pos := "law.go:269", after := #[], guard := none }) (v := .bool true) rfl (by kernel_rfl) (by kernel_rfl) (by kernel_rfl) (fun _ _ _ h => h) (Or.inl ⟨by rfl, fun w hSw => by go_simp⟩) (by assumption) ?_
            try simp only [Act.put, List.setIfInBounds_toArray, List.set_cons_zero, List.set_cons_succ]
            refine wpAnyH_take (i := 1) (oi := { dst := some 102, op := Op.unOp UnOp.not 4 (Operand.tmp 101), type := 4, pos := "law.go:269", after := #[{ on := 0, ground := Ground.data }], guard := none }) (v := .bool false) rfl (by kernel_rfl) (by kernel_rfl) (by kernel_rfl) (fun _ _ _ h => h) (Or.inl ⟨by rfl, fun w hSw => by go_simp⟩) (by assumption) ?_
            try simp only [Act.put, List.setIfInBounds_toArray, List.set_cons_zero, List.set_cons_succ]
            refine wpAnyH_take (i := 2) (oi := { dst := some 103, op := Op.move (Operand.tmp 102), type := 4, pos := "law.go:269", after := #[{ on := 1, ground := Ground.data }], guard := none }) (v := .bool false) rfl (by kernel_rfl) (by kernel_rfl) (by kernel_rfl) (fun _ _ _ h => h) (Or.inl ⟨by rfl, fun w hSw => by go_simp⟩) (by assumption) ?_
            try simp only [Act.put, List.setIfInBounds_toArray, List.set_cons_zero, List.set_cons_succ]
            refine wpAnyH_take (i := 3) (oi := { dst := some 104, op := Op.fieldAddr 29 (Operand.tmp 6) 0, type := 0, pos := "law.go:269", after := #[{ on := 2, ground := Ground.guard }], guard := some (2, false) }) (v := .pointer (some ⟨g, 0, none⟩)) rfl (by kernel_rfl) (by kernel_rfl) (by kernel_rfl) (fun _ _ _ h => h) (Or.inl ⟨by rfl, fun w hSw => by go_simp⟩) (by assumption) ?_
            try simp only [Act.put, List.setIfInBounds_toArray, List.set_cons_zero, List.set_cons_succ]
            refine wpAnyH_take (i := 4) (oi := { dst := some 105, op := Op.load 26 (Operand.tmp 104), type := 26, pos := "law.go:269", after := #[{ on := 3, ground := Ground.data }, { on := 2, ground := Ground.guard }], guard := some (2, false) }) (v := .slice (some ⟨lb, lo2, none⟩) l.length c) rfl (by kernel_rfl) (by kernel_rfl) (by kernel_rfl) (fun _ _ _ h => h) (Or.inl ⟨by rfl, fun w hSw => by obtain ⟨p0, p1, -⟩ := row2 (brow hSw HT2.out); go_simp⟩) (by assumption) ?_
            try simp only [Act.put, List.setIfInBounds_toArray, List.set_cons_zero, List.set_cons_succ]
            refine wpAnyH_take (i := 5) (oi := { dst := some 106, op := Op.move (Operand.tmp 11), type := 3, pos := "law.go:269", after := #[{ on := 2, ground := Ground.guard }], guard := some (2, false) }) (v := .int .i64 (fi : Int)) rfl (by kernel_rfl) (by kernel_rfl) (by kernel_rfl) (fun _ _ _ h => h) (Or.inl ⟨by rfl, fun w hSw => by go_simp⟩) (by assumption) ?_
            try simp only [Act.put, List.setIfInBounds_toArray, List.set_cons_zero, List.set_cons_succ]
            refine wpAnyH_take (i := 6) (oi := { dst := some 107, op := Op.indexAddr 26 (Operand.tmp 105) (Operand.tmp 106), type := 0, pos := "law.go:269", after := #[{ on := 4, ground := Ground.data }, { on := 5, ground := Ground.data }, { on := 2, ground := Ground.guard }], guard := some (2, false) }) (v := .pointer (some ⟨lb, lo2 + fi * 7, none⟩)) rfl (by kernel_rfl) (by kernel_rfl) (by kernel_rfl) (fun _ _ _ h => h) (Or.inl ⟨by rfl, fun w hSw => by go_simp⟩) (by assumption) ?_
            try simp only [Act.put, List.setIfInBounds_toArray, List.set_cons_zero, List.set_cons_succ]
            refine wpAnyH_take (i := 7) (oi := { dst := some 108, op := Op.fieldAddr 43 (Operand.tmp 107) 3, type := 0, pos := "law.go:269", after := #[{ on := 6, ground := Ground.data }, { on := 2, ground := Ground.guard }], guard := some (2, false) }) (v := .pointer (some ⟨lb, lo2 + fi * 7 + 4, none⟩)) rfl (by kernel_rfl) (by kernel_rfl) (by kernel_rfl) (fun _ _ _ h => h) (Or.inl ⟨by rfl, fun w hSw => by go_simp⟩) (by assumption) ?_
            try simp only [Act.put, List.setIfInBounds_toArray, List.set_cons_zero, List.set_cons_succ]
            refine wpAnyH_take (i := 8) (oi := { dst := some 109, op := Op.load 41 (Operand.tmp 108), type := 41, pos := "law.go:269", after := #[{ on := 7, ground := Ground.data }, { on := 2, ground := Ground.guard }], guard := some (2, false) }) (v := .agg #[.int .u16 (e.s : Int), .int .u16 (e.m : Int)]) rfl (by kernel_rfl) (by kernel_rfl) (by kernel_rfl) (fun _ _ _ h => h) (Or.inl ⟨by rfl, fun w hSw => by obtain ⟨k0, k1, k2, k3, k4, k5, k6⟩ := HEL2.out.2.keep (hSw.block lb HEL2.out.1); go_simp⟩) (by assumption) ?_
            try simp only [Act.put, List.setIfInBounds_toArray, List.set_cons_zero, List.set_cons_succ]
            refine wpAnyH_take (i := 9) (oi := { dst := some 110, op := Op.load 41 (Operand.tmp 12), type := 41, pos := "law.go:269", after := #[{ on := 2, ground := Ground.guard }], guard := some (2, false) }) (v := .agg #[.int .u16 (y1 : Int), .int .u16 (y2 : Int)]) rfl (by kernel_rfl) (by kernel_rfl) (by kernel_rfl) (fun _ _ _ h => h) (Or.inl ⟨by rfl, fun w hSw => by obtain ⟨p0, p1, -⟩ := row2 (brow hSw HM2.out); go_simp⟩) (by assumption) ?_
            try simp only [Act.put, List.setIfInBounds_toArray, List.set_cons_zero, List.set_cons_succ]
            refine wpAnyH_ready (rs := [10]) (by kernel_rfl) (by simp) ?_
            refine AllReadyH.cons (o := { dst := some 111, op := Op.call { callee := Callee.value (Operand.func 24), args := #[Operand.tmp 109, Operand.tmp 110], argTypes := #[41, 41] }, type := 4, pos := "law.go:269", after := #[{ on := 8, ground := Ground.data }, { on := 9, ground := Ground.data }, { on := 2, ground := Ground.chain }, { on := 2, ground := Ground.guard }], guard := some (2, false) }) rfl (fun K hK => ?_) AllReadyH.nil
            go_simp
            with_reducible refine (HNR.out _).mono ?_
            rintro en wn ⟨rfl, hB⟩
            have hS2 := hHeld.trans (hB.mono hHeld.size)
            refine hK.out _ _ (hS2) (fun hHeld2 => ?_)
            clear hK K hHeld
            have hHeld := hHeld2
            clear hHeld2
            try simp only [Act.put, List.setIfInBounds_toArray, List.set_cons_zero, List.set_cons_succ]
            clear hB hS2 wd
            generalize wn = wd at *
            refine wpAnyH_take (i := 11) (oi := { dst := some 112, op := Op.unOp UnOp.not 4 (Operand.tmp 111), type := 4, pos := "law.go:269", after := #[{ on := 10, ground := Ground.data }, { on := 2, ground := Ground.guard }], guard := some (2, false) }) (v := .bool false) rfl (by kernel_rfl) (by kernel_rfl) (by kernel_rfl) (fun _ _ _ h => h) (Or.inl ⟨by rfl, fun w hSw => by go_simp⟩) (by assumption) ?_
            try simp only [Act.put, List.setIfInBounds_toArray, List.set_cons_zero, List.set_cons_succ]
            refine wpAnyH_take (i := 12) (oi := { dst := some 113, op := Op.pick (Operand.tmp 103) (Operand.const (Value.bool true)) (Operand.tmp 112), type := 4, pos := "law.go:269", after := #[{ on := 2, ground := Ground.data }, { on := 11, ground := Ground.data }], guard := none }) (v := .bool false) rfl (by kernel_rfl) (by kernel_rfl) (by kernel_rfl) (fun _ _ _ h => h) (Or.inl ⟨by rfl, fun w hSw => by go_simp⟩) (by assumption) ?_
            try simp only [Act.put, List.setIfInBounds_toArray, List.set_cons_zero, List.set_cons_succ]
            refine wpAnyH_take (i := 13) (oi := { dst := some 114, op := Op.move (Operand.tmp 113), type := 4, pos := "law.go:269", after := #[{ on := 12, ground := Ground.data }, { on := 10, ground := Ground.chain }], guard := none }) (v := .bool false) rfl (by kernel_rfl) (by kernel_rfl) (by kernel_rfl) (fun _ _ _ h => h) (Or.inl ⟨by rfl, fun w hSw => by go_simp⟩) (by assumption) ?_
            try simp only [Act.put, List.setIfInBounds_toArray, List.set_cons_zero, List.set_cons_succ]
            refine wpAnyH_take (i := 14) (oi := { dst := some 115, op := Op.move (Operand.tmp 8), type := 46, pos := "law.go:269", after := #[{ on := 13, ground := Ground.guard }], guard := some (13, false) }) (v := .pointer (some ⟨qs, 0, none⟩)) rfl (by kernel_rfl) (by kernel_rfl) (by kernel_rfl) (fun _ _ _ h => h) (Or.inl ⟨by rfl, fun w hSw => by go_simp⟩) (by assumption) ?_
            try simp only [Act.put, List.setIfInBounds_toArray, List.set_cons_zero, List.set_cons_succ]
            refine wpAnyH_take (i := 15) (oi := { dst := some 116, op := Op.move (Operand.tmp 9), type := 48, pos := "law.go:269", after := #[{ on := 13, ground := Ground.guard }], guard := some (13, false) }) (v := .slice (some ⟨rb, 0, none⟩) nr cr) rfl (by kernel_rfl) (by kernel_rfl) (by kernel_rfl) (fun _ _ _ h => h) (Or.inl ⟨by rfl, fun w hSw => by go_simp⟩) (by assumption) ?_
            try simp only [Act.put, List.setIfInBounds_toArray, List.set_cons_zero, List.set_cons_succ]
            refine wpAnyH_take (i := 16) (oi := { dst := some 117, op := Op.move (Operand.tmp 10), type := 3, pos := "law.go:269", after := #[{ on := 13, ground := Ground.guard }], guard := some (13, false) }) (v := .int .i64 (k : Int)) rfl (by kernel_rfl) (by kernel_rfl) (by kernel_rfl) (fun _ _ _ h => h) (Or.inl ⟨by rfl, fun w hSw => by go_simp⟩) (by assumption) ?_
            try simp only [Act.put, List.setIfInBounds_toArray, List.set_cons_zero, List.set_cons_succ]
            refine wpAnyH_take (i := 17) (oi := { dst := some 118, op := Op.indexAddr 48 (Operand.tmp 116) (Operand.tmp 117), type := 0, pos := "law.go:269", after := #[{ on := 15, ground := Ground.data }, { on := 16, ground := Ground.data }, { on := 13, ground := Ground.guard }], guard := some (13, false) }) (v := .pointer (some ⟨rb, k * 5, none⟩)) rfl (by kernel_rfl) (by kernel_rfl) (by kernel_rfl) (fun _ _ _ h => h) (Or.inl ⟨by rfl, fun w hSw => by go_simp⟩) (by assumption) ?_
            try simp only [Act.put, List.setIfInBounds_toArray, List.set_cons_zero, List.set_cons_succ]
            refine wpAnyH_take (i := 18) (oi := { dst := some 119, op := Op.fieldAddr 53 (Operand.tmp 118) 0, type := 0, pos := "law.go:269", after := #[{ on := 17, ground := Ground.data }, { on := 13, ground := Ground.guard }], guard := some (13, false) }) (v := .pointer (some ⟨rb, k * 5, none⟩)) rfl (by kernel_rfl) (by kernel_rfl) (by kernel_rfl) (fun _ _ _ h => h) (Or.inl ⟨by rfl, fun w hSw => by go_simp⟩) (by assumption) ?_
            try simp only [Act.put, List.setIfInBounds_toArray, List.set_cons_zero, List.set_cons_succ]
            refine wpAnyH_take (i := 19) (oi := { dst := some 120, op := Op.load 39 (Operand.tmp 119), type := 39, pos := "law.go:269", after := #[{ on := 18, ground := Ground.data }, { on := 13, ground := Ground.guard }], guard := some (13, false) }) (v := .agg #[.int .u32 (e.a : Int), .int .u8 (e.n : Int)]) rfl (by kernel_rfl) (by kernel_rfl) (by kernel_rfl) (fun _ _ _ h => h) (Or.inl ⟨by rfl, fun w hSw => by obtain ⟨k0, k1, k2, k3, k4⟩ := HRE3.out.keep (hSw.block rb HRB3.out); go_simp⟩) (by assumption) ?_
            try simp only [Act.put, List.setIfInBounds_toArray, List.set_cons_zero, List.set_cons_succ]
            refine wpAnyH_take (i := 20) (oi := { dst := some 121, op := Op.fieldAddr 29 (Operand.tmp 6) 0, type := 0, pos := "law.go:269", after := #[{ on := 13, ground := Ground.guard }], guard := some (13, false) }) (v := .pointer (some ⟨g, 0, none⟩)) rfl (by kernel_rfl) (by kernel_rfl) (by kernel_rfl) (fun _ _ _ h => h) (Or.inl ⟨by rfl, fun w hSw => by go_simp⟩) (by assumption) ?_
            try simp only [Act.put, List.setIfInBounds_toArray, List.set_cons_zero, List.set_cons_succ]
            refine wpAnyH_take (i := 21) (oi := { dst := some 122, op := Op.load 26 (Operand.tmp 121), type := 26, pos := "law.go:269", after := #[{ on := 20, ground := Ground.data }, { on := 13, ground := Ground.guard }], guard := some (13, false) }) (v := .slice (some ⟨lb, lo2, none⟩) l.length c) rfl (by kernel_rfl) (by kernel_rfl) (by kernel_rfl) (fun _ _ _ h => h) (Or.inl ⟨by rfl, fun w hSw => by obtain ⟨p0, p1, -⟩ := row2 (brow hSw HT2.out); go_simp⟩) (by assumption) ?_
            try simp only [Act.put, List.setIfInBounds_toArray, List.set_cons_zero, List.set_cons_succ]
            refine wpAnyH_take (i := 22) (oi := { dst := some 123, op := Op.move (Operand.tmp 11), type := 3, pos := "law.go:269", after := #[{ on := 13, ground := Ground.guard }], guard := some (13, false) }) (v := .int .i64 (fi : Int)) rfl (by kernel_rfl) (by kernel_rfl) (by kernel_rfl) (fun _ _ _ h => h) (Or.inl ⟨by rfl, fun w hSw => by go_simp⟩) (by assumption) ?_
            try simp only [Act.put, List.setIfInBounds_toArray, List.set_cons_zero, List.set_cons_succ]
            refine wpAnyH_take (i := 23) (oi := { dst := some 124, op := Op.indexAddr 26 (Operand.tmp 122) (Operand.tmp 123), type := 0, pos := "law.go:269", after := #[{ on := 21, ground := Ground.data }, { on := 22, ground := Ground.data }, { on := 13, ground := Ground.guard }], guard := some (13, false) }) (v := .pointer (some ⟨lb, lo2 + fi * 7, none⟩)) rfl (by kernel_rfl) (by kernel_rfl) (by kernel_rfl) (fun _ _ _ h => h) (Or.inl ⟨by rfl, fun w hSw => by go_simp⟩) (by assumption) ?_
            try simp only [Act.put, List.setIfInBounds_toArray, List.set_cons_zero, List.set_cons_succ]
            refine wpAnyH_take (i := 24) (oi := { dst := some 125, op := Op.fieldAddr 43 (Operand.tmp 124) 3, type := 0, pos := "law.go:269", after := #[{ on := 23, ground := Ground.data }, { on := 13, ground := Ground.guard }], guard := some (13, false) }) (v := .pointer (some ⟨lb, lo2 + fi * 7 + 4, none⟩)) rfl (by kernel_rfl) (by kernel_rfl) (by kernel_rfl) (fun _ _ _ h => h) (Or.inl ⟨by rfl, fun w hSw => by go_simp⟩) (by assumption) ?_
            try simp only [Act.put, List.setIfInBounds_toArray, List.set_cons_zero, List.set_cons_succ]
            refine wpAnyH_take (i := 25) (oi := { dst := some 126, op := Op.load 41 (Operand.tmp 125), type := 41, pos := "law.go:269", after := #[{ on := 24, ground := Ground.data }, { on := 13, ground := Ground.guard }], guard := some (13, false) }) (v := .agg #[.int .u16 (e.s : Int), .int .u16 (e.m : Int)]) rfl (by kernel_rfl) (by kernel_rfl) (by kernel_rfl) (fun _ _ _ h => h) (Or.inl ⟨by rfl, fun w hSw => by obtain ⟨k0, k1, k2, k3, k4, k5, k6⟩ := HEL2.out.2.keep (hSw.block lb HEL2.out.1); go_simp⟩) (by assumption) ?_
            try simp only [Act.put, List.setIfInBounds_toArray, List.set_cons_zero, List.set_cons_succ]
            refine wpAnyH_ready (rs := [26]) (by kernel_rfl) (by simp) ?_
            refine AllReadyH.cons (o := { dst := some 127, op := Op.call { callee := Callee.value (Operand.func 20), args := #[Operand.tmp 115, Operand.tmp 120, Operand.tmp 126], argTypes := #[46, 39, 41] }, type := 4, pos := "law.go:269", after := #[{ on := 14, ground := Ground.data }, { on := 19, ground := Ground.data }, { on := 25, ground := Ground.data }, { on := 13, ground := Ground.chain }, { on := 13, ground := Ground.guard }], guard := some (13, false) }) rfl (fun K hK => ?_) AllReadyH.nil
            go_simp
            with_reducible refine (HFE.out _ hHeld).mono ?_
            rintro en wn ⟨rfl, hB⟩
            have hS2 := hHeld.trans (hB.mono hHeld.size)
            refine hK.out _ _ (hS2) (fun hHeld2 => ?_)
            clear hK K hHeld
            have hHeld := hHeld2
            clear hHeld2
            try simp only [Act.put, List.setIfInBounds_toArray, List.set_cons_zero, List.set_cons_succ]
            clear hB hS2 wd
            generalize wn = wd at *
            refine wpAnyH_take (i := 27) (oi := { dst := some 128, op := Op.unOp UnOp.not 4 (Operand.tmp 127), type := 4, pos := "law.go:269", after := #[{ on := 26, ground := Ground.data }, { on := 13, ground := Ground.guard }], guard := some (13, false) }) (v := .bool false) rfl (by kernel_rfl) (by kernel_rfl) (by kernel_rfl) (fun _ _ _ h => h) (Or.inl ⟨by rfl, fun w hSw => by go_simp⟩) (by assumption) ?_
            try simp only [Act.put, List.setIfInBounds_toArray, List.set_cons_zero, List.set_cons_succ]
            refine wpAnyH_take (i := 28) (oi := { dst := some 129, op := Op.pick (Operand.tmp 114) (Operand.const (Value.bool true)) (Operand.tmp 128), type := 4, pos := "law.go:269", after := #[{ on := 13, ground := Ground.data }, { on := 27, ground := Ground.data }], guard := none }) (v := .bool false) rfl (by kernel_rfl) (by kernel_rfl) (by kernel_rfl) (fun _ _ _ h => h) (Or.inl ⟨by rfl, fun w hSw => by go_simp⟩) (by assumption) ?_
            try simp only [Act.put, List.setIfInBounds_toArray, List.set_cons_zero, List.set_cons_succ]
            refine wpAnyH_done (by kernel_rfl) ?_ _
            try unfold NoPanic
            have HF := Lib.hid (HB8.out.trans (hHeld.mono HB8.out.size))
            clear hHeld
            go_wp2
            go_roundw
            case rel => exact ⟨k + 1, by omega, by go_num, HQ2.out.step HF.out, HG2.out.kept HF.out, c2, HS2.out.below HF.out, HC2.out⟩
            case measure => simp [intOf]; omega
          · obtain rfl : k = nr := by omega
            have HFN : Hid (SelOK cfL (fN f rs k) L rs) := Lib.hid (by rw [HNR0.out]; exact sel_again HS6.out.1 HI.out.1.ok HI.out.2.2.2 HS4.out.2.2.2.1)
            go_wp2_with (first
              | (go_at_call 16; (with_reducible refine (costs_any _).mono ?_); rintro en w8 ⟨rfl, hw8⟩; have hB8 := (Below.refl wr.heap.size wr).alloc (Nat.le_refl _) (.cells #[.int .u16 96, .int .u16 1, .int .u16 65535, .int .u16 300, .int .u16 96, .int .u16 65534, .int .u16 10] 32); have hC8 := costs_cost wr; rw [← hw8] at hB8 hC8; have HS8 := Lib.hid (And.intro (HSQ.out.1.below hB8) (And.intro (HQ.out.step hB8) (And.intro (HG.out.kept hB8) hC8))); clear hB8 hC8 hw8)
              | (go_at_call 15; (with_reducible refine (select_any w8 w.heap.size q v L HS8.out.2.1.p.r HI.out.1.up HI.out.1.ok (by have := HI.out.1.len; have := HI.out.2.1; omega) lo qs c' (fN f rs k) HS8.out.1 _ 7 7 cfL HS8.out.2.2.2).mono ?_); rintro en w9 ⟨v9, rs9, rfl, K9, O9, B9, -⟩; obtain rfl := K9.ext HFN.out; have HS9 := Lib.hid (And.intro O9 (And.intro (HS8.out.2.1.step B9) (HS8.out.2.2.1.kept B9))); clear K9 O9 B9)
              | (go_at_call 25; (with_reducible refine (same_any w9 w5.heap.size w8.heap.size (.slice Ar k cr) v9 rs9 HS9.out.2.2 HS9.out.1 (by have := HNR0.out; omega)).mono ?_); rintro en w10 ⟨rfl, B10⟩; have HS10 := Lib.hid (HS9.out.2.1.step B10); clear B10))
            go_ret
            exact ⟨rfl, HS10.out.b⟩
  · go_enter Try.func6, Try.ntmps6
    by_cases h8 : len0 ≤ 80
    · have hl80 : ¬ (80 : Int) < (len0 : Int) := by omega
      have hl30 : (30 : Int) < (len1 : Int) := by omega
      clear h80
      go_wp2_with (first
        | (go_at_call 8; (with_reducible refine (HAW.out w).mono ?_); rintro en w1 ⟨rfl, B1⟩; have H1 := Lib.hid B1; clear B1)
        | (go_at_call 8; (with_reducible refine (HAW.out w1).mono ?_); rintro en w2 ⟨rfl, B2⟩; have H2 := Lib.hid (H1.out.trans (B2.mono H1.out.size)); clear B2))
      go_ret
      exact ⟨rfl, H2.out⟩
    · have hl80 : (80 : Int) < (len0 : Int) := by omega
      clear h80
      go_wp2_with (first
        | (go_at_call 8; (with_reducible refine (HAW.out w).mono ?_); rintro en w1 ⟨rfl, B1⟩; have H1 := Lib.hid B1; clear B1)
        | (go_at_call 8; (with_reducible refine (HAW.out w1).mono ?_); rintro en w2 ⟨rfl, B2⟩; have H2 := Lib.hid (H1.out.trans (B2.mono H1.out.size)); clear B2))
      go_ret
      exact ⟨rfl, H2.out⟩

set_option maxRecDepth 100000 in
theorem lifted (os : Os) (started : os.Started) (H : Type) (enc : TypeId × Value → H) :
    ReturnsInHanded {} Try.checked os 6 .any (Rows.routesNearerSpec.pre6 enc Try.prog Try.f6 Rows.routesNearerRow.domain false) (Rows.routesNearerSpec.post enc Try.prog Try.f6 false true false false) := by
  refine returnsInHanded_of_change (C := Try.checked) own started (by kernel_rfl) Try.func6
    (ChangeSpec.witness6 (enc := enc) (C := Try.checked) false ⟨#[], #[.slice none 0 0, .slice none 0 0], []⟩ 8 (by kernel_rfl) (by kernel_rfl) (by kernel_rfl) (by kernel_rfl)) ?_
  intro W base args ds gs before hval0 hW hcnd _
  have hval : ∀ (j : Nat) t v, Try.f6.params[j]? = some t → args[j]? = some v → Value.okWide Try.prog W .any base t v := hval0
  have hW' := hW
  obtain ⟨p, q, hA0, hV, rfl, hfz, hnd⟩ := hW
  have hA : DataW.TrodAll enc Try.prog W 0 (fun _ => true) true Try.f6.params.toList args.toList ds p := hA0
  rw [Try.params6] at hA hval
  obtain ⟨v0, vs0, d0, ds0, p0, q0, hargs, rfl, rfl, h0, r0⟩ := trodAll_cons hA
  obtain ⟨v1, vs1, d1, ds1, p1, q1, rfl, rfl, rfl, h1, r1⟩ := trodAll_cons r0
  obtain ⟨rfl, rfl, rfl⟩ := trodAll_nil r1
  obtain rfl : args = #[v0, v1] := by cases args; simp_all
  obtain ⟨rfl, rfl⟩ := trodVars_none hV
  obtain ⟨a0, len0, cap0, rfl⟩ := okWide_slice Try.underlying22 (hval 0 22 v0 rfl rfl)
  have k0 := h0
  have lt0 : ∀ x ∈ p0, x.block < W.heap.size := by obtain ⟨m, hm⟩ := k0; exact DataW.trod_lt m _ _ _ hm
  obtain ⟨z0, w0⟩ : ∃ zs, IsActs W a0 len0 cap0 zs := by
    obtain ⟨fuel, hf⟩ := h0
    obtain ⟨a, l, c, ds, hcs, hds⟩ := acts_of hf
    simp [Value.cells] at hcs
    obtain ⟨rfl, rfl, rfl⟩ := hcs
    exact ⟨ds, hds⟩
  obtain ⟨a1, len1, cap1, rfl⟩ := okWide_slice Try.underlying22 (hval 1 22 v1 rfl rfl)
  have k1 := h1
  have lt1 : ∀ x ∈ p1, x.block < W.heap.size := by obtain ⟨m, hm⟩ := k1; exact DataW.trod_lt m _ _ _ hm
  obtain ⟨z1, w1⟩ : ∃ zs, IsActs W a1 len1 cap1 zs := by
    obtain ⟨fuel, hf⟩ := h1
    obtain ⟨a, l, c, ds, hcs, hds⟩ := acts_of hf
    simp [Value.cells] at hcs
    obtain ⟨rfl, rfl, rfl⟩ := hcs
    exact ⟨ds, hds⟩
  clear hA0 hval0
  refine (walk a0 len0 cap0 z0 a1 len1 cap1 z1 W w0 w1).mono fun e W' ⟨he, bel⟩ => ?_
  subst he
  exact ⟨_, rfl, _, _, _, [], _, [], hW', trodAll_mk1 (shut_bool Try.underlying4 _), (trodAll_cons_mk (Below.trod laidOut (by kernel_rfl) (of_decide_eq_true (by kernel_rfl)) k0 bel lt0) (trodAll_cons_mk (Below.trod laidOut (by kernel_rfl) (of_decide_eq_true (by kernel_rfl)) k1 bel lt1) trodAll_mk0)), rfl, bel.frame _, fun h => by cases h⟩

theorem over : Rows.routesNearerRow.holds Try.pinned (OpenSpec.ofChange Rows.routesNearerSpec) :=
  OpenClaim.holds_of_wide 6 Try.f6 rfl rfl rfl rfl rfl rfl rfl ⟨rfl, rfl, rfl, rfl, rfl⟩ rfl rfl rfl rfl rfl (by kernel_rfl) Try.func6 (by kernel_rfl)
    (of_decide_eq_true (by kernel_rfl)) (by unfold Func.isWrapper; first | (rw [if_pos (by decide +kernel)]; kernel_rfl) | (rw [if_neg (by decide +kernel)]; exact ⟨rfl, rfl⟩))
    (fun os started H enc _ => lifted os started H enc)

theorem proved : Rows.RoutesNearerSaid := over
#print axioms proved
end Go.Proofs.Ytkbhmdoichiinaa.routesNearer
