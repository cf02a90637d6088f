/-
  'For every input the Go function milestonelaw17.EngineCounts returns true, and each argument reads behind the call as it read before.'
  Conditions: none but the row's own (linux/amd64, sizes of what is read within the address space).
-/
import Derived.Test.YtjbogjbopgcbhaaGreatDoorRows
import Derived.WalkKit
import Derived.ProofKit
import Derived.OpenShut
import Derived.ShutString
import Derived.ChangeOld
import Derived.Below
import Derived.Lib.SmallJoins
import Derived.Lib.Hide
import Derived.Test.YtjbogjbopgcbhaaGreatDoorZO
import Derived.Test.YtjbogjbopgcbhaaGreatDoorZLaid
import Derived.Test.YtjbogjbopgcbhaaGreatDoorCards
import Derived.Test.YtjbogjbopgcbhaaGreatDoorTie
import Derived.SevenTiedAt
import Derived.Laws.Closers25b
namespace Go.Proofs.YtjbogjbopgcbhaaGreatDoor.Eg.engineCounts
open Pre
open Ser
open Rts
open Go.Proofs.YtjbogjbopgcbhaaGreatDoor.Src (row1 row2 Mk SrcAt pA pN)
open Go.Proofs.YtjbogjbopgcbhaaGreatDoor.Lk (laidWorld laid_met)
open Go.ChangeShapes Go.WideShapes Go.ChangeAt Go.RowKit
open Go.ChangeMaps (open_string shut_string)
set_option linter.unusedVariables false
set_option maxRecDepth 8000

theorem own : ownKnob Tryz.prog.godebug = none := by kernel_rfl
theorem laidOut : laidOutB Tryz.prog = true := by kernel_rfl

set_option maxHeartbeats 16000000 in
theorem walk (a0 : Int) (a1 : Int) (a2 : Option Addr) (len2 cap2 : Nat) (z2 : List ActD) (w : World) (w0 : (Lit.int .u8 a0).wf = true) (w1 : (Lit.int .u8 a1).wf = true) (w2 : IsActs w a2 len2 cap2 z2) (hp : Lk.Tab w) :
    Calls Tryz.prog 9 #[.int .u8 a0, .int .u8 a1, .slice a2 len2 cap2] w fun e w' => e = .returned (.bool true) ∧ Below w.heap.size w w' := by
  have b0 := bounds_u8 w0
  have b1 := bounds_u8 w1
  obtain ⟨g, rfl⟩ := Int.eq_ofNat_of_zero_le b0.1
  obtain ⟨bd, rfl⟩ := Int.eq_ofNat_of_zero_le b1.1
  have HY := Lib.hid w2
  clear w0 w1 w2
  have h0 := Lk.tab_size hp
  have HT := Lib.hid hp
  clear hp
  have HM : Hid (∀ W, Lk.Tab W → Calls Tryz.prog 14 #[.int .u16 96, .int .u16 96] W fun en w' => ∃ q w1, en = .returned (.pointer (some ⟨q, 0, none⟩)) ∧ Below W.heap.size W w1 ∧ LW w1 w' q (Eng.m0 96 96) []) := Lib.hid fun W h => met_any W 96 96 (by decide) (by decide) h
  by_cases h20 : len2 ≤ 20
  · have hd : decide ((20 : Int) < (len2 : Int)) = false := by simp; omega
    have hnb : (bd : Int) % 10 = ((bd % 10 : Nat) : Int) := by omega
    obtain ⟨nb, hn⟩ : ∃ nb, nb = bd % 10 := ⟨_, rfl⟩
    have hn10 : nb < 10 := by omega
    have hg : g ≤ 255 := by omega
    rw [← hn] at hnb
    clear hn b0 b1
    go_enter Tryz.func9, Tryz.ntmps9
    go_wp2_with (first
      | (go_at_call 13; (with_reducible refine (awake_any w HT.out).mono ?_); rintro en wa ⟨rfl, hB⟩; have HA := Lib.hid (And.intro hB (Lk.tab_below HT.out hB h0)); clear hB)
      | (go_at_call 14; (with_reducible refine (HM.out _ HA.out.2).mono ?_); rintro en w2 ⟨q, w1, rfl, hB, hL⟩; have H1 := Lib.hid (HA.out.1.trans (hB.mono HA.out.1.size)); have HL := Lib.hid hL; clear hB hL HM))
    go_loopw [8] (fun iv wr => ∃ i : Nat, i ≤ len2 ∧ iv = .int .i64 i ∧ ∃ e : Eng, Hid (LW w1 wr q e [] ∧ CI e i)) (fun iv _ => len2 - (intOf iv).toNat)
    case atStart => exact ⟨0, Nat.zero_le _, rfl, _, Lib.hid ⟨HL.out, CI.start⟩⟩
    case round =>
      obtain ⟨i, hi, rfl, e, HI⟩ := hrel
      clear HL
      by_cases hlt : i < len2
      · have hil : i < z2.length := by rw [← HY.out.1]; exact hlt
        obtain ⟨lb, lo, rfl, hlb, hat⟩ := HY.out.2.2.2.1 i hil
        generalize z2[i] = d at hat
        have hP := hat.hP
        have hM := hat.hM
        have HD := Lib.hid (And.intro hlb hat)
        clear hlb hat
        obtain ⟨pa, hpa⟩ : ∃ pa, pa = pA d.P := ⟨_, rfl⟩
        obtain ⟨pn, hpn⟩ : ∃ pn, pn = pN d.P := ⟨_, rfl⟩
        have CU : Hid (∀ W, Calls Tryz.prog 16 #[.int .u8 (d.P : Int), .int .u16 5, .int .u16 (d.Metric : Int)] W fun en w' => en = .returned (.agg #[.int .u8 3, .int .u64 0, .int .i64 3, .int .u32 (pa : Int), .int .u8 (pn : Int), .int .u16 5, .int .u16 (d.Metric : Int)]) ∧ Below W.heap.size W w') := Lib.hid fun W => by rw [hpa, hpn]; exact up_any W d.P 5 d.Metric hP
        have HN := Lib.hid (CI.step (p := d.P) HI.out.2 HI.out.1.ok (show d.Metric ≤ 255 by omega))
        have HWR : Hid (IntKind.u16.wrap (d.Metric : Int) = (d.Metric : Int)) := Lib.hid (by rw [IntKind.wrap_u16]; omega)
        have HH : Hid (∀ W, LW w1 W q e [] → Calls Tryz.prog 15 #[.pointer (some ⟨q, 0, none⟩), .agg #[.int .i64 1, .slice (some ⟨W.heap.size, 0, none⟩) 1 1], .int .i64 0, .int .u64 2] (W.alloc (.cells #[.int .u8 3, .int .u64 0, .int .i64 3, .int .u32 (pa : Int), .int .u8 (pn : Int), .int .u16 5, .int .u16 (d.Metric : Int)] 32)) fun en w' => en = .returned (.tuple #[]) ∧ LW w1 w' q (e.upd 1 2 (uP (pA d.P) (pN d.P) 5 d.Metric)) []) := Lib.hid fun W h => by
          rw [← hpa, ← hpn]
          exact hear_12 (h.add #[.int .u8 3, .int .u64 0, .int .i64 3, .int .u32 (pa : Int), .int .u8 (pn : Int), .int .u16 5, .int .u16 (d.Metric : Int)] 32) HI.out.2.met (row_up W 3 pa pn 5 d.Metric) (by rw [hpa, hpn]; exact uP_ok (by decide) (by omega)) rfl (by have := HI.out.2.len; omega)
        clear hpa hpn hP hM
        go_upto_region 7 with (fail)
        have HW := Lib.hid (HI.out.1.step ((Below.refl wr.heap.size wr).drew))
        refine wp_region_noPanic ?_
        refine wp_region_held_drew (S := fun y9 : World => Below w.heap.size w y9) (by kernel_rfl) ((H1.out.trans (HI.out.1.b.mono H1.out.size)).drew) (fun hHeld => ?_)
        generalize wr.drew = wd at *
        refine wpAnyH_take (i := 0) (oi := { dst := some 26, op := Op.move (Operand.tmp 7), type := 24, pos := "law.go:279", after := #[], guard := none }) (v := .pointer (some ⟨q, 0, none⟩)) rfl (by kernel_rfl) (by kernel_rfl) (by kernel_rfl) (fun _ _ _ h => h) (Or.inl ⟨by rfl, fun w hSw => by go_simp⟩) (by assumption) ?_
        try simp only [Act.put, List.setIfInBounds_toArray, List.set_cons_zero, List.set_cons_succ]
        refine wpAnyH_take (i := 1) (oi := { dst := some 27, op := Op.move (Operand.tmp 2), type := 46, pos := "law.go:279", after := #[], guard := none }) (v := .slice (some ⟨lb, lo, none⟩) len2 cap2) rfl (by kernel_rfl) (by kernel_rfl) (by kernel_rfl) (fun _ _ _ h => h) (Or.inl ⟨by rfl, fun w hSw => by go_simp⟩) (by assumption) ?_
        try simp only [Act.put, List.setIfInBounds_toArray, List.set_cons_zero, List.set_cons_succ]
        refine wpAnyH_take (i := 2) (oi := { dst := some 28, op := Op.move (Operand.tmp 8), type := 3, pos := "law.go:279", after := #[], guard := none }) (v := .int .i64 (i : Int)) rfl (by kernel_rfl) (by kernel_rfl) (by kernel_rfl) (fun _ _ _ h => h) (Or.inl ⟨by rfl, fun w hSw => by go_simp⟩) (by assumption) ?_
        try simp only [Act.put, List.setIfInBounds_toArray, List.set_cons_zero, List.set_cons_succ]
        refine wpAnyH_take (i := 3) (oi := { dst := some 29, op := Op.indexAddr 46 (Operand.tmp 27) (Operand.tmp 28), type := 0, pos := "law.go:279", after := #[{ on := 1, ground := Ground.data }, { on := 2, ground := Ground.data }], guard := none }) (v := .pointer (some ⟨lb, lo + i * 5, none⟩)) rfl (by kernel_rfl) (by kernel_rfl) (by kernel_rfl) (fun _ _ _ h => h) (Or.inl ⟨by rfl, fun w hSw => by go_simp⟩) (by assumption) ?_
        try simp only [Act.put, List.setIfInBounds_toArray, List.set_cons_zero, List.set_cons_succ]
        refine wpAnyH_take (i := 4) (oi := { dst := some 30, op := Op.fieldAddr 53 (Operand.tmp 29) 0, type := 0, pos := "law.go:279", after := #[{ on := 3, ground := Ground.data }], guard := none }) (v := .pointer (some ⟨lb, lo + i * 5, none⟩)) rfl (by kernel_rfl) (by kernel_rfl) (by kernel_rfl) (fun _ _ _ h => h) (Or.inl ⟨by rfl, fun w hSw => by go_simp⟩) (by assumption) ?_
        try simp only [Act.put, List.setIfInBounds_toArray, List.set_cons_zero, List.set_cons_succ]
        refine wpAnyH_take (i := 5) (oi := { dst := some 31, op := Op.load 5 (Operand.tmp 30), type := 5, pos := "law.go:279", after := #[{ on := 4, ground := Ground.data }], guard := none }) (v := .int .u8 (d.P : Int)) rfl (by kernel_rfl) (by kernel_rfl) (by kernel_rfl) (fun _ _ _ h => h) (Or.inl ⟨by rfl, fun w hSw => by obtain ⟨k0, k1, k2, k3, k4, -⟩ := HD.out.2.keep (hSw.block lb HD.out.1); have hl := Nat.lt_of_lt_of_le HD.out.1 hSw.size; go_simp⟩) (by assumption) ?_
        try simp only [Act.put, List.setIfInBounds_toArray, List.set_cons_zero, List.set_cons_succ]
        refine wpAnyH_take (i := 6) (oi := { dst := some 32, op := Op.move (Operand.tmp 2), type := 46, pos := "law.go:279", after := #[], guard := none }) (v := .slice (some ⟨lb, lo, none⟩) len2 cap2) rfl (by kernel_rfl) (by kernel_rfl) (by kernel_rfl) (fun _ _ _ h => h) (Or.inl ⟨by rfl, fun w hSw => by go_simp⟩) (by assumption) ?_
        try simp only [Act.put, List.setIfInBounds_toArray, List.set_cons_zero, List.set_cons_succ]
        refine wpAnyH_take (i := 7) (oi := { dst := some 33, op := Op.move (Operand.tmp 8), type := 3, pos := "law.go:279", after := #[], guard := none }) (v := .int .i64 (i : Int)) rfl (by kernel_rfl) (by kernel_rfl) (by kernel_rfl) (fun _ _ _ h => h) (Or.inl ⟨by rfl, fun w hSw => by go_simp⟩) (by assumption) ?_
        try simp only [Act.put, List.setIfInBounds_toArray, List.set_cons_zero, List.set_cons_succ]
        refine wpAnyH_take (i := 8) (oi := { dst := some 34, op := Op.indexAddr 46 (Operand.tmp 32) (Operand.tmp 33), type := 0, pos := "law.go:279", after := #[{ on := 6, ground := Ground.data }, { on := 7, ground := Ground.data }], guard := none }) (v := .pointer (some ⟨lb, lo + i * 5, none⟩)) rfl (by kernel_rfl) (by kernel_rfl) (by kernel_rfl) (fun _ _ _ h => h) (Or.inl ⟨by rfl, fun w hSw => by go_simp⟩) (by assumption) ?_
        try simp only [Act.put, List.setIfInBounds_toArray, List.set_cons_zero, List.set_cons_succ]
        refine wpAnyH_take (i := 9) (oi := { dst := some 35, op := Op.fieldAddr 53 (Operand.tmp 34) 2, type := 0, pos := "law.go:279", after := #[{ on := 8, ground := Ground.data }], guard := none }) (v := .pointer (some ⟨lb, lo + i * 5 + 2, none⟩)) rfl (by kernel_rfl) (by kernel_rfl) (by kernel_rfl) (fun _ _ _ h => h) (Or.inl ⟨by rfl, fun w hSw => by go_simp⟩) (by assumption) ?_
        try simp only [Act.put, List.setIfInBounds_toArray, List.set_cons_zero, List.set_cons_succ]
        refine wpAnyH_take (i := 10) (oi := { dst := some 36, op := Op.load 5 (Operand.tmp 35), type := 5, pos := "law.go:279", after := #[{ on := 9, ground := Ground.data }], guard := none }) (v := .int .u8 (d.Metric : Int)) rfl (by kernel_rfl) (by kernel_rfl) (by kernel_rfl) (fun _ _ _ h => h) (Or.inl ⟨by rfl, fun w hSw => by obtain ⟨k0, k1, k2, k3, k4, -⟩ := HD.out.2.keep (hSw.block lb HD.out.1); have hl := Nat.lt_of_lt_of_le HD.out.1 hSw.size; go_simp⟩) (by assumption) ?_
        try simp only [Act.put, List.setIfInBounds_toArray, List.set_cons_zero, List.set_cons_succ]
        refine wpAnyH_take (i := 11) (oi := { dst := some 37, op := Op.convert 5 22 (Operand.tmp 36), type := 22, pos := "law.go:279", after := #[{ on := 10, ground := Ground.data }], guard := none }) (v := .int .u16 (d.Metric : Int)) rfl (by kernel_rfl) (by kernel_rfl) (by kernel_rfl) (fun _ _ _ h => h) (Or.inl ⟨by rfl, fun w hSw => by have hwr := HWR.out; go_simp⟩) (by assumption) ?_
        try simp only [Act.put, List.setIfInBounds_toArray, List.set_cons_zero, List.set_cons_succ]
        refine wpAnyH_ready (rs := [12]) (by kernel_rfl) (by simp) ?_
        refine (AllReadyH.cons (o := { dst := some 38, op := Op.call { callee := Callee.value (Operand.func 16), args := #[Operand.tmp 31, Operand.const (Value.int IntKind.u16 5), Operand.tmp 37], argTypes := #[5, 22, 22] }, type := 32, pos := "law.go:279", after := #[{ on := 5, ground := Ground.data }, { on := 11, ground := Ground.data }], guard := none }) rfl (fun K hK => ?_) AllReadyH.nil)
        go_simp
        with_reducible refine (CU.out _).mono ?_
        rintro en wd2 ⟨rfl, B3⟩
        have HW2 := Lib.hid (HW.out.step B3)
        refine hK.out _ _ (H1.out.trans (HW2.out.b.mono H1.out.size)) (fun hHeld2 => ?_)
        clear hK K hHeld
        have hHeld := hHeld2
        clear hHeld2
        try simp only [Act.put, List.setIfInBounds_toArray, List.set_cons_zero, List.set_cons_succ]
        clear B3 HW
        generalize wd2 = wd at *
        have HW := HW2
        clear HW2
        refine wpAnyH_ready (rs := [13]) (by kernel_rfl) (by simp) ?_
        refine (AllReadyH.cons (o := { dst := some 39, op := Op.buildSlice 34 1 #[(0, Operand.tmp 38)], type := 34, pos := "law.go:279", after := #[{ on := 12, ground := Ground.data }], guard := none }) rfl (fun K hK => ?_) AllReadyH.nil)
        have HR := Lib.hid (HH.out wd HW.out)
        have BA := (HW.out.add #[.int .u8 3, .int .u64 0, .int .i64 3, .int .u32 (pa : Int), .int .u8 (pn : Int), .int .u16 5, .int .u16 (d.Metric : Int)] 32).b
        go_simp
        refine hK.out _ _ (H1.out.trans (BA.mono H1.out.size)) (fun hHeld2 => ?_)
        clear hK K hHeld
        have hHeld := hHeld2
        clear hHeld2
        try simp only [Act.put, List.setIfInBounds_toArray, List.set_cons_zero, List.set_cons_succ]
        clear BA HW
        generalize World.alloc wd _ = wd3 at *
        generalize wd.heap.size = z at *
        generalize wd3 = wd at *
        refine wpAnyH_take (i := 14) (oi := { dst := some 40, op := Op.build 36 #[(0, Operand.const (Value.int IntKind.i64 1)), (1, Operand.tmp 39)], type := 36, pos := "law.go:279", after := #[{ on := 13, ground := Ground.data }], guard := none }) (v := .agg #[.int .i64 1, .slice (some ⟨z, 0, none⟩) 1 1]) rfl (by kernel_rfl) (by kernel_rfl) (by kernel_rfl) (fun _ _ _ h => h) (Or.inl ⟨by rfl, fun w hSw => by go_simp⟩) (by assumption) ?_
        try simp only [Act.put, List.setIfInBounds_toArray, List.set_cons_zero, List.set_cons_succ]
        refine wpAnyH_ready (rs := [15]) (by kernel_rfl) (by simp) ?_
        refine (AllReadyH.cons (o := { dst := some 41, op := Op.call { callee := Callee.value (Operand.func 15), args := #[Operand.tmp 26, Operand.tmp 40, Operand.const (Value.int IntKind.i64 0), Operand.const (Value.int IntKind.u64 2)], argTypes := #[24, 36, 3, 27] }, type := 0, pos := "law.go:279", after := #[{ on := 0, ground := Ground.data }, { on := 14, ground := Ground.data }, { on := 12, ground := Ground.chain }], guard := none }) rfl (fun K hK => ?_) AllReadyH.nil)
        go_simp
        with_reducible refine HR.out.mono ?_
        rintro en wd2 ⟨rfl, hL⟩
        have HW := Lib.hid hL
        refine hK.out _ _ (H1.out.trans (HW.out.b.mono H1.out.size)) (fun hHeld2 => ?_)
        clear hK K hHeld
        have hHeld := hHeld2
        clear hHeld2
        try simp only [Act.put, List.setIfInBounds_toArray, List.set_cons_zero, List.set_cons_succ]
        clear hL HR
        generalize wd2 = wd at *
        refine wpAnyH_done (by kernel_rfl) ?_ _
        try unfold NoPanic
        clear hHeld
        go_wp2
        go_roundw
        case rel => exact ⟨i + 1, by omega, by go_num, _, Lib.hid ⟨HW.out, HN.out⟩⟩
        case measure => simp [intOf]; omega
      · obtain rfl : i = len2 := by omega
        have hsk := HI.out.2.sok (show i ≤ 100 by omega)
        go_upto_region 9 with (go_at_call 17; (with_reducible refine (select_lw HI.out.1 hsk).mono ?_); rintro en w4 ⟨v4, e4, ts, rfl, hS, hL, hO, hK⟩; have HS := Lib.hid (And.intro hS (And.intro hO hK)); clear hS hO hK hL)
        obtain ⟨hch, hcs⟩ := HS.out.1.chose HI.out.1.ok hsk
        obtain ⟨A4, c4, hv4, -, hs4, hA4⟩ := gsl_of HS.out.2.1 (fun _ => rfl)
        have hown := HI.out.2.met.own_look hch
        have hpos : 0 < ts.length := by
          have h9 := (look_mem hown).1
          rw [hcs] at h9
          exact List.length_pos_of_mem h9
        obtain ⟨g4, o4, rfl, -, -⟩ := hs4 0 hpos
        obtain ⟨hob, rfl⟩ := hA4 g4 o4 rfl
        obtain ⟨-, cur, hcur⟩ := HS.out.2.1.lt hob
        have HL4 := Lib.hid (HS.out.2.2 g4 cur hob hcur)
        have hm4 := HI.out.2.met.sel hch
        have hc4 := hch.c
        have hsz := HI.out.2.sz
        have hlen4 := hch.len
        have hlo4 := hch.lost
        have hk4 := hch.keep
        have hil := HI.out.2.len
        have hol : e.own.length = 1 := by rw [HI.out.2.met.own]; rfl
        have hbad4 : e4.bad = 0 := by rw [hk4]; exact HI.out.2.bad
        have hst4 : e4.st = 0 := by rw [hk4]; exact HI.out.2.st
        have hL4 : e4.L = e.L := by rw [hk4]
        have HH9 : Hid (∀ W, LW w1 W q e4 [(g4, cur, 40)] → Calls Tryz.prog 15 #[.pointer (some ⟨q, 0, none⟩), .agg #[.int .i64 1, .slice none 0 0], .int .i64 (g : Int), .int .u64 2] W fun en w' => en = .returned (.tuple #[]) ∧ LW w1 w' q { e4 with st := g } [(g4, cur, 40)]) := Lib.hid fun W h => by
          have h9 := hear_lw h 1 g 2 none 0 0 [] rfl (fun j hj => absurd hj (Nat.not_lt_zero j)) (Or.inl rfl) (fun x hx => by cases hx) (by decide) (by rw [hm4.id]; decide) (by omega) (by omega) (by decide) (by rw [hm4.nb]; decide) (by rw [hL4]; show e.L.length + 0 ≤ 199; omega) (fun x hx => by cases hx)
          rw [hear_none hm4, hst4, Nat.zero_add] at h9
          exact h9
        obtain ⟨e5, he5⟩ : ∃ e5 : Nat → Eng, e5 = fun k => { e4 with st := g, bad := k } := ⟨_, rfl⟩
        have hb5 : ∀ k, (e5 k).bad = k := fun k => by rw [he5]
        have he50 : e5 0 = { e4 with st := g } := by rw [he5]; show ({ e4 with st := g, bad := 0 } : Eng) = _; rw [← hbad4]
        have he5s : ∀ k, ({ e5 k with bad := k + 1 } : Eng) = e5 (k + 1) := fun k => by rw [he5]
        have HB9 : Hid (∀ W k, k < 100 → LW w1 W q (e5 k) [(g4, cur, 40)] → Calls Tryz.prog 34 #[.pointer (some ⟨q, 0, none⟩)] W fun en w' => en = .returned (.tuple #[]) ∧ LW w1 w' q (e5 (k + 1)) [(g4, cur, 40)]) := Lib.hid fun W k hk h => by
          have h9 := bad_lw h (by rw [hb5]; omega)
          rw [hb5, he5s] at h9
          exact h9
        rw [← he50] at HH9
        have hsk5 : ∀ k, (e5 k).SelOk := fun k => by
          rw [he5]
          have hm5 : Met 96 96 { e4 with st := g, bad := k } := ⟨hm4.id, hm4.own, hm4.nb, by show g ≤ 1000; omega, hm4.fu, hm4.nr⟩
          obtain ⟨z1, z2, z3⟩ := hsz
          refine hm5.sok (x := 30) (y := 0) (z := 30) (fun x hx => ?_) ⟨by show e4.c ≤ 30; omega, by show e4.lost.length ≤ 0; omega, by show e4.ch.length ≤ 30; omega⟩ (by show 30 + 1 + e4.L.length ≤ 230; rw [hL4]; omega) (by decide)
          have hx : x ∈ e4.L := hx
          rw [hL4] at hx
          obtain ⟨-, -, -, p, e1, e2⟩ := HI.out.2.L x hx
          rw [e1, e2]
          exact ⟨Src.p_right p, p, rfl, rfl⟩
        have HS9 : Hid (∀ W, LW w1 W q (e5 nb) [(g4, cur, 40)] → Calls Tryz.prog 17 #[.pointer (some ⟨q, 0, none⟩)] W fun en w' => ∃ A c e6, en = .returned (.slice A ts.length c) ∧ LW w1 w' q e6 [(g4, cur, 40)] ∧ GSl 5 Ro.cl w' A ts ∧ e6.bad = nb ∧ e6.st = g ∧ e6.fu = 0 ∧ e6.nr = 0) := Lib.hid fun W h => (select_lw h (hsk5 nb)).mono fun en w' ⟨v', e6, ts', h1, h2, h3, h4, _⟩ => by
          obtain ⟨k1, k2⟩ := h2.chose h.ok (hsk5 nb)
          have k3 : e6.ch = e4.ch := HI.out.2.again HI.out.1.ok hch (e2 := e5 nb) (by rw [he5]) HL4.out.ok k1 h3.ok
          rw [k2, hcs] at k3
          obtain ⟨A, c, hv, -, hs, -⟩ := gsl_of h4 (fun _ => rfl)
          rw [k3] at hv hs
          have k4 := k1.keep
          exact ⟨A, c, e6, by rw [h1, hv], h3, hs, by rw [k4]; exact hb5 nb, by rw [k4, he5], by rw [k4, he5]; exact hm4.fu, by rw [k4, he5]; exact hm4.nr⟩
        have HT4 : Hid (∀ W e', LW w1 W q e' [(g4, cur, 40)] → GSl 5 Ro.cl W (some ⟨g4, 0, none⟩) ts) := Lib.hid fun W e' h => fun j hj => by
          obtain ⟨b', o', e9, hb', hcell⟩ := hs4 j hj
          injection e9 with e9
          injection e9 with e9 e10
          subst e9 e10
          have hrow := h.row (List.mem_cons_self ..)
          exact ⟨_, _, rfl, (Array.getElem?_eq_some_iff.1 hrow).1, fun i hi => (World.cell?_of_block (a := ⟨g4, 0 + j * 5 + i, none⟩) (hrow.trans hcur.symm)).trans (hcell i hi)⟩
        have HID : Hid (∀ k, (0 : Int) = ((e5 k).id : Int)) := Lib.hid fun k => by rw [he5, show ({ e4 with st := g, bad := k } : Eng).id = 0 from hm4.id]; rfl
        have htl : ts.length ≤ 100 := by rw [← hcs]; omega
        obtain ⟨nt, hnt⟩ : ∃ nt, nt = ts.length := ⟨_, rfl⟩
        rw [← hnt] at hv4 htl HS9
        have HNT := Lib.hid hnt
        subst hv4
        clear hs4 hA4 hcs hch hown hpos hob hcur hm4 hc4 hsz hlen4 hlo4 hk4 hil hol hbad4 hst4 hL4 hb5 he50 he5s hsk5 hsk hnt he5 HS HI
        obtain ⟨pa, hpa⟩ : ∃ pa, pa = pA 0 := ⟨_, rfl⟩
        obtain ⟨pn, hpn⟩ : ∃ pn, pn = pN 0 := ⟨_, rfl⟩
        have CU : Hid (∀ W, Calls Tryz.prog 16 #[.int .u8 0, .int .u16 9, .int .u16 0] W fun en w' => en = .returned (.agg #[.int .u8 3, .int .u64 0, .int .i64 3, .int .u32 (pa : Int), .int .u8 (pn : Int), .int .u16 9, .int .u16 0]) ∧ Below W.heap.size W w') := Lib.hid fun W => by rw [hpa, hpn]; exact up_any W 0 9 0 (by decide)
        clear hpa hpn
        go_wp2_with (go_at_call 15; (with_reducible refine (HH9.out _ HL4.out).mono ?_); rintro en w5 ⟨rfl, hL⟩; have HL5 := Lib.hid hL; clear hL HH9 HL4)
        go_loopw [10] (fun iv wr => ∃ k : Nat, k ≤ nb ∧ iv = .int .i64 k ∧ Hid (LW w1 wr q (e5 k) [(g4, cur, 40)])) (fun iv _ => nb - (intOf iv).toNat)
        case atStart => exact ⟨0, Nat.zero_le _, rfl, HL5⟩
        case round =>
          obtain ⟨k, hk, rfl, HR⟩ := hrel
          clear HL5
          by_cases hlt2 : k < nb
          · go_wp2_with (go_at_call 34; (with_reducible refine (HB9.out _ _ (by omega) HR.out).mono ?_); rintro en w6 ⟨rfl, hL⟩; have HL6 := Lib.hid hL; clear hL)
            go_roundw
            case rel => exact ⟨k + 1, by omega, by go_num, HL6⟩
            case measure => simp [intOf]; omega
          · obtain rfl : k = nb := by omega
            go_wp2_with (first
              | (go_at_call 16; (with_reducible refine (CU.out _).mono ?_); rintro en w7 ⟨rfl, hB⟩; have HL7 := Lib.hid ((HR.out.step hB).add #[.int .u8 3, .int .u64 0, .int .i64 3, .int .u32 (pa : Int), .int .u8 (pn : Int), .int .u16 9, .int .u16 0] 32); clear hB)
              | (go_at_call 15; obtain ⟨m9, hE9, -⟩ := HL7.out.ex; (with_reducible refine (hear_own _ _ q _ m9 hE9 0 7 2 _ 1 1 (HID.out _)).mono ?_); rintro en w8 ⟨rfl, hB⟩; have HL8 := Lib.hid ((HL7.out.step hB).sub (K' := [(g4, cur, 40)]) fun k hk => List.mem_cons_of_mem _ hk); clear hB hE9)
              | (go_at_call 17; (with_reducible refine (HS9.out _ HL8.out).mono ?_); rintro en w9 ⟨A9, c9, e9, rfl, hL, hs, x1, x2, x3, x4⟩; have HL9 := Lib.hid (And.intro hL hs); have HX := Lib.hid (And.intro x1 (And.intro x2 (And.intro x3 x4))); clear hL hs x1 x2 x3 x4)
              | (go_at_call 38; (with_reducible refine (same_sl _ _ _ _ _ _ ts HNT.out HL9.out.2 (HT4.out _ _ HL9.out.1) (by omega)).mono ?_); rintro en wa2 ⟨rfl, hB⟩; have HLa := Lib.hid (HL9.out.1.step hB); clear hB)
              | (go_at_call 37; (with_reducible refine (counts_lw HLa.out).mono ?_); rintro en wb2 ⟨rfl, hB⟩; rw [HX.out.1, HX.out.2.1, HX.out.2.2.1, HX.out.2.2.2]; have HBb := Lib.hid (H1.out.trans ((HLa.out.step hB).b.mono H1.out.size)); clear hB))
            go_ret
            exact ⟨rfl, HBb.out⟩
  · have hd : decide ((20 : Int) < (len2 : Int)) = true := by simp; omega
    clear h20 b0 b1
    go_enter Tryz.func9, Tryz.ntmps9
    go_wp2_with (first
      | (go_at_call 13; (with_reducible refine (awake_any w HT.out).mono ?_); rintro en wa ⟨rfl, hB⟩; have HA := Lib.hid (And.intro hB (Lk.tab_below HT.out hB h0)); clear hB)
      | (go_at_call 13; (with_reducible refine (awake_any wa HA.out.2).mono ?_); rintro en wb ⟨rfl, hB⟩; have HB := Lib.hid (HA.out.1.trans (hB.mono HA.out.1.size)); clear hB))
    go_ret
    exact ⟨rfl, HB.out⟩

set_option maxRecDepth 100000 in
theorem lifted (os : Os) (started : os.Started) (H : Type) (enc : TypeId × Value → H) :
    ReturnsInHanded {} Tryz.checked os 9 .any (fun w args => (Rows.engineCountsSpec.pre enc Tryz.prog Tryz.f9 Rows.engineCountsRow.domain false w args ∧ laidMet Tryz.prog Rows.engineCountsRow.laid w) ∧ sizedMet enc Tryz.prog Tryz.f9 (OpenSpec.ofChange Rows.engineCountsSpec) false w args)
      (Rows.engineCountsSpec.post enc Tryz.prog Tryz.f9 false true false false) := by
  refine returnsInHanded_of_change_and (C := Tryz.checked) (X := fun w _ => laidMet Tryz.prog Rows.engineCountsRow.laid w) (fun _ _ _ hh h => h.of_heap hh) own started (by kernel_rfl) Tryz.func9
    (ChangeSpec.witness_at (enc := enc) (C := Tryz.checked) (os := os) (X := fun w _ => laidMet Tryz.prog Rows.engineCountsRow.laid w) false (laidWorld os) #[.int .u8 0, .int .u8 0, .slice none 0 0] 8 rfl (by kernel_rfl) (by kernel_rfl) (by kernel_rfl) (by kernel_rfl) (by kernel_rfl) (laid_met os _)) ?_
  intro W base args ds gs before hval0 hW hcnd _ hL _
  have hval : ∀ (j : Nat) t v, Tryz.f9.params[j]? = some t → args[j]? = some v → Value.okWide Tryz.prog W .any base t v := hval0
  have hW' := hW
  obtain ⟨p, q, hA0, hV, rfl, hfz, hnd⟩ := hW
  have hA : DataW.TrodAll enc Tryz.prog W 0 (fun _ => true) true Tryz.f9.params.toList args.toList ds p := hA0
  rw [Tryz.params9] at hA hval
  obtain ⟨v0, vs0, d0, ds0, p0, q0, hargs, rfl, rfl, h0, r0⟩ := trodAll_cons hA
  obtain ⟨v1, vs1, d1, ds1, p1, q1, rfl, rfl, rfl, h1, r1⟩ := trodAll_cons r0
  obtain ⟨v2, vs2, d2, ds2, p2, q2, rfl, rfl, rfl, h2, r2⟩ := trodAll_cons r1
  obtain ⟨rfl, rfl, rfl⟩ := trodAll_nil r2
  obtain rfl : args = #[v0, v1, v2] := by cases args; simp_all
  obtain ⟨rfl, rfl⟩ := trodVars_none hV
  obtain ⟨a0, rfl, rfl, rfl, w0⟩ := open_int Tryz.underlying5 (hval 0 5 v0 rfl rfl) h0
  obtain ⟨a1, rfl, rfl, rfl, w1⟩ := open_int Tryz.underlying5 (hval 1 5 v1 rfl rfl) h1
  obtain ⟨a2, len2, cap2, rfl⟩ := okWide_slice Tryz.underlying46 (hval 2 46 v2 rfl rfl)
  have k2 := h2
  have lt2 : ∀ x ∈ p2, x.block < W.heap.size := by obtain ⟨m, hm⟩ := k2; exact DataW.trod_lt m _ _ _ hm
  obtain ⟨z2, w2⟩ : ∃ zs, IsActs W a2 len2 cap2 zs := by
    obtain ⟨fuel, hf⟩ := h2
    obtain ⟨a, l, c, ds, hcs, hds⟩ := acts_of hf
    simp [Value.cells] at hcs
    obtain ⟨rfl, rfl, rfl⟩ := hcs
    exact ⟨ds, hds⟩
  clear hA0 hval0
  refine (walk a0 a1 a2 len2 cap2 z2 W w0 w1 w2 (Lk.tab_of_laid hL)).mono fun e W' ⟨he, bel⟩ => ?_
  subst he
  exact ⟨_, rfl, _, _, _, [], _, [], hW', trodAll_mk1 (shut_bool Tryz.underlying4 _), (trodAll_cons_mk (shut_int Tryz.underlying5 w0) (trodAll_cons_mk (shut_int Tryz.underlying5 w1) (trodAll_cons_mk (Below.trod laidOut (by kernel_rfl) (of_decide_eq_true (by kernel_rfl)) k2 bel lt2) trodAll_mk0))), rfl, bel.frame _, fun h => by cases h⟩

theorem over : Rows.engineCountsRow.holds Tryz.pinned (OpenSpec.ofChange Rows.engineCountsSpec) :=
  OpenClaim.holds_of_wide 9 Tryz.f9 rfl rfl rfl rfl rfl rfl rfl ⟨rfl, rfl, rfl, rfl, rfl⟩ rfl rfl rfl rfl rfl (by kernel_rfl) Tryz.func9 (by kernel_rfl)
    (of_decide_eq_true (by kernel_rfl)) (by unfold Func.isWrapper; first | (rw [if_pos (by decide +kernel)]; kernel_rfl) | (rw [if_neg (by decide +kernel)]; exact ⟨rfl, rfl⟩))
    (fun os started H enc _ => lifted os started H enc)

theorem proved : Rows.EngineCountsCardSaid :=
  Claim7.holds_tied_plain_at .later [] [.data] true (true, "73430b27a30ada73018fe7c3192a9fa6d4b7bfc394d4113e0a57e1736d749f34") false
    over (fun _ h => by cases h) (by kernel_rfl) (fun _ h => by cases h) engineCounts_row_tie rfl ⟨rfl, rfl⟩ (by kernel_rfl) rfl
    (fun f fn hf hfn => by
      obtain rfl : f = 9 := Option.some.inj ((show Tryz.prog.funcNamed "milestone/milestonelaw17.EngineCounts" = some 9 by kernel_rfl).symm.trans hf) |>.symm
      obtain rfl : fn = Tryz.f9 := (Option.some.inj (Tryz.func9.symm.trans hfn)).symm
      exact ⟨by kernel_rfl, fun j t ht => by
        rw [Tryz.params9] at ht
        have hm : t ∈ [5, 5, 46] := by simpa using Array.mem_of_getElem? ht
        have hall : ([5, 5, 46].all fun u => !Tryz.prog.wantsStandIn u) = true := by kernel_rfl
        exact (show Tryz.prog.wantsStandIn t = false by simpa using List.all_eq_true.1 hall t hm)⟩)
    (by kernel_rfl)
#print axioms proved
end Go.Proofs.YtjbogjbopgcbhaaGreatDoor.Eg.engineCounts
