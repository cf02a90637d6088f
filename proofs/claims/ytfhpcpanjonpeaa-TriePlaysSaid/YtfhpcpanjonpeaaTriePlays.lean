/-
  'For every input the Go function milestonelaw09.TriePlays returns true, and each argument reads behind the call as it read before.'
  Conditions: none but the row's own (linux/amd64, sizes of what is read within the address space).
-/
import Derived.Test.YtfhpcpanjonpeaaRows
import Derived.WalkKit
import Derived.ProofKit
import Derived.OpenShut
import Derived.ShutString
import Derived.ChangeOld
import Derived.Below
import Derived.Lib.SmallJoins
import Derived.Lib.Hide
import Derived.Test.YtfhpcpanjonpeaaTh
import Derived.Test.YtfhpcpanjonpeaaTg
import Derived.Test.YtfhpcpanjonpeaaTc
import Derived.Deep.DeepCutAuto
import Derived.Deep.CutBlock
namespace Go.Proofs.Ytfhpcpanjonpeaa.triePlays
open Tri
open Pre
open Go.ChangeShapes Go.WideShapes Go.ChangeAt Go.RowKit
open Go.ChangeMaps (open_string shut_string)
set_option linter.unusedVariables false

theorem own : ownKnob Try.prog.godebug = none := by kernel_rfl
theorem laidOut : laidOutB Try.prog = true := by kernel_rfl

/-- What the walk is told of a slice of integers that came in. -/
def IsRow (k : IntKind) (w : World) (a : Option Addr) (len cap : Nat) (zs : List Int) : Prop :=
  (a = none ∧ len = 0 ∧ cap = 0 ∧ zs = []) ∨
  ∃ x, a = some x ∧ len ≤ cap ∧ cap ≤ maxLen ∧ zs.length = cap ∧ (∀ i, i < zs.length → w.cell? (x.add i) = some (.int k (zs.getD i 0))) ∧ ∀ n ∈ zs, (Lit.int k n).wf = true

set_option maxRecDepth 8000 in
set_option maxHeartbeats 8000000 in
theorem walk (a0 : Option Addr) (len0 cap0 : Nat) (z0 : List ActD) (a1 : Option Addr) (len1 cap1 : Nat) (z1 : List Int) (w : World) (w0 : IsActs w a0 len0 cap0 z0) (w1 : IsRow .u32 w a1 len1 cap1 z1) :
    Calls Try.prog 3 #[.slice a0 len0 cap0, .slice a1 len1 cap1] w fun e w' => e = .returned (.bool true) ∧ Below w.heap.size w w' := by
  obtain ⟨hl1, hl2, hl3, HA, hnil⟩ := w0
  unfold maxLen at hl3
  have HL := Lib.hid hl1
  have HU1 := Lib.hid w1
  clear hl1 w1
  by_cases h2 : 60 < len0
  · have h2' : (60 : Int) < len0 := by omega
    clear HA HL
    go_enter Try.func3, Try.ntmps3
    go_wp2_with fail
    refine (awake_any _).mono ?_
    rintro e w1 ⟨rfl, h1⟩
    go_wp2_with fail
    refine (awake_any _).mono ?_
    rintro e w2 ⟨rfl, h2⟩
    go_wp2_with fail
    go_ret
    exact ⟨rfl, h1.trans (h2.mono h1.size)⟩
  have h2' : ¬ (60 : Int) < len0 := by omega
  by_cases h3 : 30 < len1
  · have h3' : (30 : Int) < len1 := by omega
    clear HA HL
    go_enter Try.func3, Try.ntmps3
    go_wp2_with fail
    refine (awake_any _).mono ?_
    rintro e w1 ⟨rfl, h1⟩
    go_wp2_with fail
    refine (awake_any _).mono ?_
    rintro e w2 ⟨rfl, h2⟩
    go_wp2_with fail
    go_ret
    exact ⟨rfl, h1.trans (h2.mono h1.size)⟩
  have h3' : ¬ (30 : Int) < len1 := by omega
  have hl60 : len0 ≤ 60 := by omega
  have hm30 : len1 ≤ 30 := by omega
  clear h2 h3
  go_enter Try.func3, Try.ntmps3
  go_upto_region 3 with (first
    | (go_at_call 7; refine (awake_any _).mono ?_; rintro e wz ⟨rfl, B0⟩))
  have HS := Lib.hid (HA.below B0)
  have HW := Lib.hid B0
  have HU : Hid (∃ t ls bs, UA wz (wz.alloc (.cells #[.pointer none, .int .i64 0] 28)) wz.heap.size (.slice none 0 0) t ls bs ∧ Sm t ls ∧ ls.length ≤ 0) := Lib.hid ⟨.nil, [], [], ⟨(Below.refl _ _).alloc (Nat.le_refl _) _, TrAt.new wz, by simp, RtOwn.nil _ _, by simp [Value.ownBlock], trivial⟩, Sm.nil, Nat.le_refl _⟩
  clear HA B0
  go_upto_block 0 with (fail)
  generalize wz.alloc _ = wg at *
  go_cut [6] (fun v6 wx => Hid (∃ t ls bs, UA wz wx wz.heap.size v6 t ls bs ∧ Sm t ls ∧ ls.length ≤ len0))
  case first =>
    go_wp2
    go_loopw [6, 7] (fun v6 i wr => ∃ k : Nat, k ≤ len0 ∧ i = .int .i64 k ∧ Hid (∃ t ls bs, UA wz wr wz.heap.size v6 t ls bs ∧ Sm t ls ∧ ls.length ≤ k)) (fun _ i _ => len0 - (intOf i).toNat)
    case atStart => exact ⟨0, by omega, rfl, HU⟩
    case round =>
      obtain ⟨k, hk, rfl, HR⟩ := hrel
      clear HU
      by_cases hlt : k < len0
      · have hkz : Hid (k < z0.length) := Lib.hid (by rw [← HL.out]; exact hlt)
        obtain ⟨b0, o0, ea, hb0, hc⟩ := HS.out k hkz.out
        subst ea
        obtain ⟨t, ls, bs, hU, hSm, hll⟩ := HR.out
        obtain ⟨d, hd⟩ : ∃ d, d = z0[k]'(hkz.out) := ⟨_, rfl⟩
        rw [← hd] at hc
        have HC0 := Lib.hid hc
        replace hc := hc.keep (hU.be.block b0 hb0)
        have hrk := hc.ok
        have hpo := place_ok d hc.ok
        have c8 := fun W => place_any d hc.ok W
        obtain ⟨k0, k1, k2, k3, _⟩ := hc
        obtain ⟨X, hX⟩ : ∃ X, X = d.pa := ⟨_, rfl⟩
        obtain ⟨Y, hY⟩ : ∃ Y, Y = d.pk := ⟨_, rfl⟩
        rw [← hX, ← hY] at c8 hpo
        have HXY := Lib.hid (And.intro hX hY)
        have HPO := Lib.hid hpo
        clear hX hY hrk hpo
        obtain ⟨A8, c8', hv8, _⟩ := hU.ow.form
        obtain ⟨n8, hn8⟩ : ∃ n, n = ls.length := ⟨_, rfl⟩
        rw [← hn8] at hv8
        subst hv8
        have HN8 := Lib.hid hn8
        have HUA := Lib.hid (And.intro hU hSm)
        have hlen := same_len hSm.wf hSm.un hSm.eq
        have HLE := Lib.hid (show t.list.length < 1000000 by omega)
        have hn8k : n8 ≤ k := by omega
        clear hd hU hSm hll hn8 hlen
        go_upto_region 9 with (first
          | (go_at_call 8; (with_reducible refine (c8 _).mono ?_); rintro e w2 ⟨rfl, B2⟩; have HB2 := Lib.hid B2; clear B2 c8))
        have RN := Lib.hid (heap_alloc_new w2 (.cells #[.int .u32 (X : Int), .int .u8 (Y : Int)] 32))
        have HB3 := Lib.hid (HB2.out.trans ((Below.refl w2.heap.size w2).alloc (Nat.le_refl _) (.cells #[.int .u32 (X : Int), .int .u8 (Y : Int)] 32) |>.mono HB2.out.size))
        clear HB2
        generalize hg3 : w2.heap.size = g3 at *
        generalize World.alloc w2 _ = w3 at *
        clear hg3
        have HU3 := Lib.hid (HUA.out.1.below HB3.out)
        obtain ⟨y0, y1⟩ := row2 RN.out
        obtain ⟨_, _, hv4, S4⟩ := HU3.out.ow.form
        injection hv4 with e1 e2 e3
        subst e1 e3
        have c9 := find_any w3 A8 n8 c8' ls HN8.out (by omega) S4 X Y
        clear S4 e2
        clear k0 k1 k2 k3
        by_cases hK : d.K % 6 < 4
        · have hK' : (d.K : Int) % 6 < 4 := by omega
          have hwk : IntKind.u8.wrap ((d.K : Int) % 6) = (d.K : Int) % 6 := by rw [IntKind.wrap_u8]; omega
          rcases findI_spec ls X Y with ⟨hfi, hno⟩ | ⟨j, hj, hfi, hja, hjn⟩
          · rw [hfi] at c9
            have HNO := Lib.hid hno
            clear hfi hno
            have hwap : ls.length ≤ 100000 := by rw [← HN8.out]; omega
            have HWAP := Lib.hid hwap
            clear hwap
            go_upto_region 10 with (first
              | (go_at_call 9; (with_reducible refine c9.mono ?_); rintro e w5 ⟨rfl, B5⟩; clear c9 y0 y1))
            have HU5 := Lib.hid (HU3.out.below B5)
            have RN5 := Lib.hid ((B5.block _ (Array.getElem?_eq_some_iff.1 RN.out).1).trans RN.out)
            clear B5
            have HC5 := Lib.hid (HC0.out.keep (HU5.out.be.block b0 hb0))
            have hb5 : b0 < w5.heap.size := Nat.lt_of_lt_of_le hb0 HU5.out.be.size
            obtain ⟨q0, q1, q2, q3, _⟩ := HC5.out
            go_upto_region 11 with (fail)
            clear q0 q1 q2 q3
            have hwv : IntKind.i64.wrap (d.Vi : Int) = d.Vi := by have := HC0.out.ok.2.2.2; rw [IntKind.wrap_i64]; omega
            refine wp_region_noPanic ?_
            refine wp_region_held_drew (S := fun W : World => Below w5.heap.size w5 W ∧ True) (by kernel_rfl) ⟨(Below.refl _ _).drew, trivial⟩ (fun hHeld => ?_)
            generalize w5.drew = wd at *
            have HD := Lib.hid hHeld.1
            refine wpAnyH_take (i := 0) (oi := { dst := some 58, op := Op.load 32 (Operand.tmp 8), type := 32, pos := "law.go:69", after := #[], guard := none }) (v := .agg #[.int .u32 (X : Int), .int .u8 (Y : Int)]) rfl (by kernel_rfl) (by kernel_rfl) (by kernel_rfl) (fun _ _ _ h => h) (Or.inl ⟨by rfl, fun w hSw => by obtain ⟨y0, y1⟩ := row2 ((hSw.1.block _ (Array.getElem?_eq_some_iff.1 RN5.out).1).trans RN5.out); go_simp⟩) (by assumption) ?_
            try simp only [Act.put, List.setIfInBounds_toArray, List.set_cons_zero, List.set_cons_succ]
            refine wpAnyH_take (i := 1) (oi := { dst := some 59, op := Op.move (Operand.tmp 0), type := 22, pos := "law.go:69", after := #[], guard := none }) (v := .slice (some ⟨b0, o0, none⟩) len0 cap0) rfl (by kernel_rfl) (by kernel_rfl) (by kernel_rfl) (fun _ _ _ h => h) (Or.inl ⟨by rfl, fun w hSw => by go_simp⟩) (by assumption) ?_
            try simp only [Act.put, List.setIfInBounds_toArray, List.set_cons_zero, List.set_cons_succ]
            refine wpAnyH_take (i := 2) (oi := { dst := some 60, op := Op.move (Operand.tmp 7), type := 3, pos := "law.go:69", after := #[], guard := none }) (v := .int .i64 (k : Int)) rfl (by kernel_rfl) (by kernel_rfl) (by kernel_rfl) (fun _ _ _ h => h) (Or.inl ⟨by rfl, fun w hSw => by go_simp⟩) (by assumption) ?_
            try simp only [Act.put, List.setIfInBounds_toArray, List.set_cons_zero, List.set_cons_succ]
            refine wpAnyH_take (i := 3) (oi := { dst := some 61, op := Op.indexAddr 22 (Operand.tmp 59) (Operand.tmp 60), type := 0, pos := "law.go:69", after := #[{ on := 1, ground := Ground.data }, { on := 2, ground := Ground.data }], guard := none }) (v := .pointer (some ⟨b0, o0 + k * 4, none⟩)) rfl (by kernel_rfl) (by kernel_rfl) (by kernel_rfl) (fun _ _ _ h => h) (Or.inl ⟨by rfl, fun w hSw => by go_simp⟩) (by assumption) ?_
            try simp only [Act.put, List.setIfInBounds_toArray, List.set_cons_zero, List.set_cons_succ]
            refine wpAnyH_take (i := 4) (oi := { dst := some 62, op := Op.fieldAddr 35 (Operand.tmp 61) 3, type := 0, pos := "law.go:69", after := #[{ on := 3, ground := Ground.data }], guard := none }) (v := .pointer (some ⟨b0, o0 + k * 4 + 3, none⟩)) rfl (by kernel_rfl) (by kernel_rfl) (by kernel_rfl) (fun _ _ _ h => h) (Or.inl ⟨by rfl, fun w hSw => by go_simp⟩) (by assumption) ?_
            try simp only [Act.put, List.setIfInBounds_toArray, List.set_cons_zero, List.set_cons_succ]
            refine wpAnyH_take (i := 5) (oi := { dst := some 63, op := Op.load 5 (Operand.tmp 62), type := 5, pos := "law.go:69", after := #[{ on := 4, ground := Ground.data }], guard := none }) (v := .int .u8 (d.Vi : Int)) rfl (by kernel_rfl) (by kernel_rfl) (by kernel_rfl) (fun _ _ _ h => h) (Or.inl ⟨by rfl, fun w hSw => by obtain ⟨q0, q1, q2, q3, _⟩ := HC5.out.keep (hSw.1.block b0 hb5); go_simp⟩) (by assumption) ?_
            try simp only [Act.put, List.setIfInBounds_toArray, List.set_cons_zero, List.set_cons_succ]
            refine wpAnyH_take (i := 6) (oi := { dst := some 64, op := Op.convert 5 3 (Operand.tmp 63), type := 3, pos := "law.go:69", after := #[{ on := 5, ground := Ground.data }], guard := none }) (v := .int .i64 (d.Vi : Int)) rfl (by kernel_rfl) (by kernel_rfl) (by kernel_rfl) (fun _ _ _ h => h) (Or.inl ⟨by rfl, fun w hSw => by go_simp⟩) (by assumption) ?_
            try simp only [Act.put, List.setIfInBounds_toArray, List.set_cons_zero, List.set_cons_succ]
            refine wpAnyH_take (i := 7) (oi := { dst := some 65, op := Op.build 39 #[(0, Operand.tmp 58), (1, Operand.tmp 64)], type := 39, pos := "law.go:69", after := #[{ on := 0, ground := Ground.data }, { on := 6, ground := Ground.data }], guard := none }) (v := .agg #[.int .u32 (X : Int), .int .u8 (Y : Int), .int .i64 (d.Vi : Int), .int .u16 0, .int .u16 0]) rfl (by kernel_rfl) (by kernel_rfl) (by kernel_rfl) (fun _ _ _ h => h) (Or.inl ⟨by rfl, fun w hSw => by go_simp⟩) (by assumption) ?_
            try simp only [Act.put, List.setIfInBounds_toArray, List.set_cons_zero, List.set_cons_succ]
            refine wpAnyH_ready (rs := [8]) (by kernel_rfl) (by simp) ?_
            refine AllReadyH.cons (o := { dst := some 10, op := Op.alloc 39, type := 0, pos := "law.go:69", after := #[], guard := none }) rfl (fun K hK => ?_) AllReadyH.nil
            go_simp
            refine hK.out _ _ (⟨HD.out.alloc HD.out.size (.cells #[.int .u32 0, .int .u8 0, .int .i64 0, .int .u16 0, .int .u16 0] 39), trivial⟩) (fun hHeld => ?_)
            clear hK K
            try simp only [Act.put, List.setIfInBounds_toArray, List.set_cons_zero, List.set_cons_succ]
            refine wpAnyH_ready (rs := [9]) (by kernel_rfl) (by simp) ?_
            refine AllReadyH.cons (o := { dst := none, op := Op.store 39 (Operand.tmp 10) (Operand.tmp 65), type := 0, pos := "law.go:69", after := #[{ on := 8, ground := Ground.data }, { on := 7, ground := Ground.data }, { on := 0, ground := Ground.phase }, { on := 1, ground := Ground.phase }, { on := 2, ground := Ground.phase }, { on := 3, ground := Ground.phase }, { on := 4, ground := Ground.phase }, { on := 5, ground := Ground.phase }, { on := 6, ground := Ground.phase }, { on := 7, ground := Ground.phase }, { on := 8, ground := Ground.phase }], guard := none }) rfl (fun K hK => ?_) AllReadyH.nil
            obtain ⟨z0, z1, z2, z3, z4⟩ := row5 (heap_alloc_new wd (.cells #[.int .u32 0, .int .u8 0, .int .i64 0, .int .u16 0, .int .u16 0] 39))
            have zf := fun i => frozen_of_row _ wd.heap.size i _ 39 (heap_alloc_new wd (.cells #[.int .u32 0, .int .u8 0, .int .i64 0, .int .u16 0, .int .u16 0] 39))
            go_simp
            clear z0 z1 z2 z3 z4 zf
            refine hK.out _ _ (⟨HD.out.alloc HD.out.size (.cells #[.int .u32 (X : Int), .int .u8 (Y : Int), .int .i64 (d.Vi : Int), .int .u16 0, .int .u16 0] 39), trivial⟩) (fun hHeld => ?_)
            clear hK K
            try simp only [Act.put, List.setIfInBounds_toArray, List.set_cons_zero, List.set_cons_succ]
            refine wpAnyH_done (by kernel_rfl) ?_ _
            try unfold NoPanic
            have RN8 := Lib.hid (heap_alloc_new wd (.cells #[.int .u32 (X : Int), .int .u8 (Y : Int), .int .i64 (d.Vi : Int), .int .u16 0, .int .u16 0] 39))
            have HU8 := Lib.hid (HU5.out.below hHeld.1)
            have HGB := Lib.hid (show wd.heap.size ∉ wz.heap.size :: bs from fun e => by have h5 := HU5.out.tr.ins _ e; have h6 := HD.out.size; omega)
            clear hHeld HD
            generalize hg8 : wd.heap.size = g8 at *
            generalize World.alloc wd _ = w8 at *
            clear hg8
            have c10 := Put_any HU8.out.tr HUA.out.2.wf ⟨X, Y, (d.Vi : Int), 0, 0⟩ HPO.out HLE.out
            unfold R.cl at c10
            dsimp only at c10
            obtain ⟨y0, y1, y2, y3, y4⟩ := row5 RN8.out
            go_upto_region 14 with (first
              | (go_at_call 10; (with_reducible refine c10.mono ?_); rintro e w9 ⟨rfl, bs', T4, fr4, G4⟩; clear c10))
            have RN9 := Lib.hid ((G4.block _ (Array.getElem?_eq_some_iff.1 RN8.out).1 HGB.out).trans RN8.out)
            have HU9 := Lib.hid (HU8.out.put T4 fr4 G4)
            clear T4 fr4 G4 y0 y1 y2 y3 y4
            obtain ⟨y0, y1, y2, y3, y4⟩ := row5 RN9.out
            go_upto_region 22 with (first
              | (at_builtin; (with_reducible refine app_rt2 rfl (.tmp 76) (.tmp 78) rfl wz.heap.size (.slice A8 n8 c8') ls ⟨X, Y, (d.Vi : Int), 0, 0⟩ w9.heap.size rfl rfl ((HU9.out.below ((Below.refl _ _).alloc (Nat.le_refl _) _)).ow) (heap_alloc_new w9 _) HWAP.out (by have h5 := HU9.out.be.size; simp; omega) ?_); intro v6 w6 O6 G6 hat6))
            have HU6 := Lib.hid ((HU9.out.below ((Below.refl w9.heap.size w9).alloc (Nat.le_refl _) (.cells #[.int .u32 (X : Int), .int .u8 (Y : Int), .int .i64 (d.Vi : Int), .int .u16 0, .int .u16 0] 39))).app O6 G6 (by simpa using hat6))
            clear O6 G6 hat6 y0 y1 y2 y3 y4
            have hS' := HUA.out.2.app (r := ⟨X, Y, (d.Vi : Int), 0, 0⟩) HPO.out HNO.out
            have hk9 : (ls ++ [(⟨X, Y, (d.Vi : Int), 0, 0⟩ : R)]).length ≤ k + 1 := by simp; have := HN8.out; omega
            have hln := same_len hS'.wf hS'.un hS'.eq
            have HS' := Lib.hid hS'
            have c12 := len_any HU6.out.tr
            rw [hln] at c12
            clear hln hS'
            obtain ⟨A9', c9'', hv9, _⟩ := HU6.out.ow.form
            obtain ⟨n9, hn9⟩ : ∃ n, n = (ls ++ [(⟨X, Y, (d.Vi : Int), 0, 0⟩ : R)]).length := ⟨_, rfl⟩
            rw [← hn9] at hv9 c12 hk9
            subst hv9
            have HN9 := Lib.hid hn9
            clear hn9
            go_wp2_with (first
              | (go_at_call 12; (with_reducible refine c12.mono ?_); rintro e w7 ⟨rfl, hw7⟩; rw [← hw7]; clear hw7 w7 c12))
            go_roundw
            case rel => exact ⟨k + 1, by omega, by go_num, Lib.hid ⟨_, _, _, HU6.out, HS'.out, by first | exact hk9 | (rw [← HN9.out]; exact hk9)⟩⟩
            case measure => simp [intOf]; omega
          · rw [hfi] at c9
            have hjl : Hid (j < ls.length) := Lib.hid hj
            have HJ : Hid ((ls[j]'(hjl.out)).a = X ∧ (ls[j]'(hjl.out)).n = Y) := Lib.hid ⟨hja, hjn⟩
            clear hfi hja hjn
            obtain ⟨gl, cap, hv, hrt, hfz⟩ := HUA.out.1.ow.open hjl.out
            injection hv with e1 e2 e3
            subst e1 e3
            have hj9 : (j : Int) < n8 := by have := HN8.out; omega
            have hj8 : ¬ n8 ≤ j := by have := HN8.out; omega
            have hj7 : (0 : Int) ≤ j := by omega
            clear e2 hj hrt hfz
            go_upto_region 10 with (first
              | (go_at_call 9; (with_reducible refine c9.mono ?_); rintro e w5 ⟨rfl, B5⟩; clear c9 y0 y1))
            have HU5 := Lib.hid (HU3.out.below B5)
            have RN5 := Lib.hid ((B5.block _ (Array.getElem?_eq_some_iff.1 RN.out).1).trans RN.out)
            clear B5
            have HC5 := Lib.hid (HC0.out.keep (HU5.out.be.block b0 hb0))
            have hb5 : b0 < w5.heap.size := Nat.lt_of_lt_of_le hb0 HU5.out.be.size
            obtain ⟨q0, q1, q2, q3, _⟩ := HC5.out
            go_upto_region 11 with (fail)
            clear q0 q1 q2 q3
            have hwv : IntKind.i64.wrap (d.Vi : Int) = d.Vi := by have := HC0.out.ok.2.2.2; rw [IntKind.wrap_i64]; omega
            refine wp_region_noPanic ?_
            refine wp_region_held_drew (S := fun W : World => Below w5.heap.size w5 W ∧ True) (by kernel_rfl) ⟨(Below.refl _ _).drew, trivial⟩ (fun hHeld => ?_)
            generalize w5.drew = wd at *
            have HD := Lib.hid hHeld.1
            refine wpAnyH_take (i := 0) (oi := { dst := some 58, op := Op.load 32 (Operand.tmp 8), type := 32, pos := "law.go:69", after := #[], guard := none }) (v := .agg #[.int .u32 (X : Int), .int .u8 (Y : Int)]) rfl (by kernel_rfl) (by kernel_rfl) (by kernel_rfl) (fun _ _ _ h => h) (Or.inl ⟨by rfl, fun w hSw => by obtain ⟨y0, y1⟩ := row2 ((hSw.1.block _ (Array.getElem?_eq_some_iff.1 RN5.out).1).trans RN5.out); go_simp⟩) (by assumption) ?_
            try simp only [Act.put, List.setIfInBounds_toArray, List.set_cons_zero, List.set_cons_succ]
            refine wpAnyH_take (i := 1) (oi := { dst := some 59, op := Op.move (Operand.tmp 0), type := 22, pos := "law.go:69", after := #[], guard := none }) (v := .slice (some ⟨b0, o0, none⟩) len0 cap0) rfl (by kernel_rfl) (by kernel_rfl) (by kernel_rfl) (fun _ _ _ h => h) (Or.inl ⟨by rfl, fun w hSw => by go_simp⟩) (by assumption) ?_
            try simp only [Act.put, List.setIfInBounds_toArray, List.set_cons_zero, List.set_cons_succ]
            refine wpAnyH_take (i := 2) (oi := { dst := some 60, op := Op.move (Operand.tmp 7), type := 3, pos := "law.go:69", after := #[], guard := none }) (v := .int .i64 (k : Int)) rfl (by kernel_rfl) (by kernel_rfl) (by kernel_rfl) (fun _ _ _ h => h) (Or.inl ⟨by rfl, fun w hSw => by go_simp⟩) (by assumption) ?_
            try simp only [Act.put, List.setIfInBounds_toArray, List.set_cons_zero, List.set_cons_succ]
            refine wpAnyH_take (i := 3) (oi := { dst := some 61, op := Op.indexAddr 22 (Operand.tmp 59) (Operand.tmp 60), type := 0, pos := "law.go:69", after := #[{ on := 1, ground := Ground.data }, { on := 2, ground := Ground.data }], guard := none }) (v := .pointer (some ⟨b0, o0 + k * 4, none⟩)) rfl (by kernel_rfl) (by kernel_rfl) (by kernel_rfl) (fun _ _ _ h => h) (Or.inl ⟨by rfl, fun w hSw => by go_simp⟩) (by assumption) ?_
            try simp only [Act.put, List.setIfInBounds_toArray, List.set_cons_zero, List.set_cons_succ]
            refine wpAnyH_take (i := 4) (oi := { dst := some 62, op := Op.fieldAddr 35 (Operand.tmp 61) 3, type := 0, pos := "law.go:69", after := #[{ on := 3, ground := Ground.data }], guard := none }) (v := .pointer (some ⟨b0, o0 + k * 4 + 3, none⟩)) rfl (by kernel_rfl) (by kernel_rfl) (by kernel_rfl) (fun _ _ _ h => h) (Or.inl ⟨by rfl, fun w hSw => by go_simp⟩) (by assumption) ?_
            try simp only [Act.put, List.setIfInBounds_toArray, List.set_cons_zero, List.set_cons_succ]
            refine wpAnyH_take (i := 5) (oi := { dst := some 63, op := Op.load 5 (Operand.tmp 62), type := 5, pos := "law.go:69", after := #[{ on := 4, ground := Ground.data }], guard := none }) (v := .int .u8 (d.Vi : Int)) rfl (by kernel_rfl) (by kernel_rfl) (by kernel_rfl) (fun _ _ _ h => h) (Or.inl ⟨by rfl, fun w hSw => by obtain ⟨q0, q1, q2, q3, _⟩ := HC5.out.keep (hSw.1.block b0 hb5); go_simp⟩) (by assumption) ?_
            try simp only [Act.put, List.setIfInBounds_toArray, List.set_cons_zero, List.set_cons_succ]
            refine wpAnyH_take (i := 6) (oi := { dst := some 64, op := Op.convert 5 3 (Operand.tmp 63), type := 3, pos := "law.go:69", after := #[{ on := 5, ground := Ground.data }], guard := none }) (v := .int .i64 (d.Vi : Int)) rfl (by kernel_rfl) (by kernel_rfl) (by kernel_rfl) (fun _ _ _ h => h) (Or.inl ⟨by rfl, fun w hSw => by go_simp⟩) (by assumption) ?_
            try simp only [Act.put, List.setIfInBounds_toArray, List.set_cons_zero, List.set_cons_succ]
            refine wpAnyH_take (i := 7) (oi := { dst := some 65, op := Op.build 39 #[(0, Operand.tmp 58), (1, Operand.tmp 64)], type := 39, pos := "law.go:69", after := #[{ on := 0, ground := Ground.data }, { on := 6, ground := Ground.data }], guard := none }) (v := .agg #[.int .u32 (X : Int), .int .u8 (Y : Int), .int .i64 (d.Vi : Int), .int .u16 0, .int .u16 0]) rfl (by kernel_rfl) (by kernel_rfl) (by kernel_rfl) (fun _ _ _ h => h) (Or.inl ⟨by rfl, fun w hSw => by go_simp⟩) (by assumption) ?_
            try simp only [Act.put, List.setIfInBounds_toArray, List.set_cons_zero, List.set_cons_succ]
            refine wpAnyH_ready (rs := [8]) (by kernel_rfl) (by simp) ?_
            refine AllReadyH.cons (o := { dst := some 10, op := Op.alloc 39, type := 0, pos := "law.go:69", after := #[], guard := none }) rfl (fun K hK => ?_) AllReadyH.nil
            go_simp
            refine hK.out _ _ (⟨HD.out.alloc HD.out.size (.cells #[.int .u32 0, .int .u8 0, .int .i64 0, .int .u16 0, .int .u16 0] 39), trivial⟩) (fun hHeld => ?_)
            clear hK K
            try simp only [Act.put, List.setIfInBounds_toArray, List.set_cons_zero, List.set_cons_succ]
            refine wpAnyH_ready (rs := [9]) (by kernel_rfl) (by simp) ?_
            refine AllReadyH.cons (o := { dst := none, op := Op.store 39 (Operand.tmp 10) (Operand.tmp 65), type := 0, pos := "law.go:69", after := #[{ on := 8, ground := Ground.data }, { on := 7, ground := Ground.data }, { on := 0, ground := Ground.phase }, { on := 1, ground := Ground.phase }, { on := 2, ground := Ground.phase }, { on := 3, ground := Ground.phase }, { on := 4, ground := Ground.phase }, { on := 5, ground := Ground.phase }, { on := 6, ground := Ground.phase }, { on := 7, ground := Ground.phase }, { on := 8, ground := Ground.phase }], guard := none }) rfl (fun K hK => ?_) AllReadyH.nil
            obtain ⟨z0, z1, z2, z3, z4⟩ := row5 (heap_alloc_new wd (.cells #[.int .u32 0, .int .u8 0, .int .i64 0, .int .u16 0, .int .u16 0] 39))
            have zf := fun i => frozen_of_row _ wd.heap.size i _ 39 (heap_alloc_new wd (.cells #[.int .u32 0, .int .u8 0, .int .i64 0, .int .u16 0, .int .u16 0] 39))
            go_simp
            clear z0 z1 z2 z3 z4 zf
            refine hK.out _ _ (⟨HD.out.alloc HD.out.size (.cells #[.int .u32 (X : Int), .int .u8 (Y : Int), .int .i64 (d.Vi : Int), .int .u16 0, .int .u16 0] 39), trivial⟩) (fun hHeld => ?_)
            clear hK K
            try simp only [Act.put, List.setIfInBounds_toArray, List.set_cons_zero, List.set_cons_succ]
            refine wpAnyH_done (by kernel_rfl) ?_ _
            try unfold NoPanic
            have RN8 := Lib.hid (heap_alloc_new wd (.cells #[.int .u32 (X : Int), .int .u8 (Y : Int), .int .i64 (d.Vi : Int), .int .u16 0, .int .u16 0] 39))
            have HU8 := Lib.hid (HU5.out.below hHeld.1)
            have HGB := Lib.hid (show wd.heap.size ∉ wz.heap.size :: bs from fun e => by have h5 := HU5.out.tr.ins _ e; have h6 := HD.out.size; omega)
            clear hHeld HD
            generalize hg8 : wd.heap.size = g8 at *
            generalize World.alloc wd _ = w8 at *
            clear hg8
            have c10 := Put_any HU8.out.tr HUA.out.2.wf ⟨X, Y, (d.Vi : Int), 0, 0⟩ HPO.out HLE.out
            unfold R.cl at c10
            dsimp only at c10
            obtain ⟨y0, y1, y2, y3, y4⟩ := row5 RN8.out
            go_upto_region 14 with (first
              | (go_at_call 10; (with_reducible refine c10.mono ?_); rintro e w9 ⟨rfl, bs', T4, fr4, G4⟩; clear c10))
            have RN9 := Lib.hid ((G4.block _ (Array.getElem?_eq_some_iff.1 RN8.out).1 HGB.out).trans RN8.out)
            have HU9 := Lib.hid (HU8.out.put T4 fr4 G4)
            clear T4 fr4 G4 y0 y1 y2 y3 y4
            obtain ⟨y0, y1, y2, y3, y4⟩ := row5 RN9.out
            obtain ⟨_, _, hv, ⟨u0, u1, u2, u3, u4⟩, hfz⟩ := HU9.out.ow.open hjl.out
            injection hv with e1 e2 e3
            injection e1 with e1
            injection e1 with e1
            subst e1
            clear e2 e3
            go_upto_region 22 with (fail)
            have HU6 := Lib.hid (HU9.out.put1 hjl.out ⟨X, Y, (d.Vi : Int), 0, 0⟩)
            clear u0 u1 u2 u3 u4 hfz y0 y1 y2 y3 y4
            have hS' := HUA.out.2.set (r := ⟨X, Y, (d.Vi : Int), 0, 0⟩) HPO.out hjl.out HJ.out
            have hk9 : (ls.set j (⟨X, Y, (d.Vi : Int), 0, 0⟩ : R)).length ≤ k + 1 := by simp; have := HN8.out; omega
            have hln := same_len hS'.wf hS'.un hS'.eq
            have HS' := Lib.hid hS'
            have c12 := len_any HU6.out.tr
            rw [hln] at c12
            clear hln hS'
            rw [List.length_set, ← HN8.out] at c12
            go_wp2_with (first
              | (go_at_call 12; (with_reducible refine c12.mono ?_); rintro e w7 ⟨rfl, hw7⟩; rw [← hw7]; clear hw7 w7 c12))
            go_roundw
            case rel => exact ⟨k + 1, by omega, by go_num, Lib.hid ⟨_, _, _, HU6.out, HS'.out, by first | exact hk9 | (rw [← HN9.out]; exact hk9)⟩⟩
            case measure => simp [intOf]; omega
        · have hK' : ¬ (d.K : Int) % 6 < 4 := by omega
          have hwk : IntKind.u8.wrap ((d.K : Int) % 6) = (d.K : Int) % 6 := by rw [IntKind.wrap_u8]; omega
          rcases findI_spec ls X Y with ⟨hfi, hno⟩ | ⟨j, hj, hfi, hja, hjn⟩
          · rw [hfi] at c9
            have HWAS := Lib.hid (was_not HUA.out.2 hno)
            clear hfi hno
            go_upto_region 10 with (first
              | (go_at_call 9; (with_reducible refine c9.mono ?_); rintro e w5 ⟨rfl, B5⟩; clear c9 y0 y1))
            have HU5 := Lib.hid (HU3.out.below B5)
            have RN5 := Lib.hid ((B5.block _ (Array.getElem?_eq_some_iff.1 RN.out).1).trans RN.out)
            clear B5
            have HC5 := Lib.hid (HC0.out.keep (HU5.out.be.block b0 hb0))
            obtain ⟨q0, q1, q2, q3, _⟩ := HC5.out
            go_upto_region 17 with (fail)
            clear q0 q1 q2 q3
            obtain ⟨y0, y1⟩ := row2 RN5.out
            have c11 := Drop_not HU5.out.tr HUA.out.2.wf HU5.out.ti X Y HPO.out.1 HWAS.out
            go_upto_region 22 with (first
              | (go_at_call 11; (with_reducible refine c11.mono ?_); rintro e w6 ⟨rfl, T6, G6⟩; clear c11))
            have HU6 := Lib.hid (HU5.out.not T6 G6)
            clear T6 G6 y0 y1
            have hS' := HUA.out.2
            have hk9 : ls.length ≤ k + 1 := by have := HN8.out; omega
            have hln := same_len hS'.wf hS'.un hS'.eq
            have HS' := Lib.hid hS'
            have c12 := len_any HU6.out.tr
            rw [hln] at c12
            clear hln hS'
            rw [← HN8.out] at c12
            go_wp2_with (first
              | (go_at_call 12; (with_reducible refine c12.mono ?_); rintro e w7 ⟨rfl, hw7⟩; rw [← hw7]; clear hw7 w7 c12))
            go_roundw
            case rel => exact ⟨k + 1, by omega, by go_num, Lib.hid ⟨_, _, _, HU6.out, HS'.out, by first | exact hk9 | (rw [← HN9.out]; exact hk9)⟩⟩
            case measure => simp [intOf]; omega
          · rw [hfi] at c9
            have hjl : Hid (j < ls.length) := Lib.hid hj
            have HJ : Hid ((ls[j]'(hjl.out)).a = X ∧ (ls[j]'(hjl.out)).n = Y) := Lib.hid ⟨hja, hjn⟩
            have HWAS := Lib.hid (was_yes HUA.out.2 HUA.out.1.ti hj ⟨hja, hjn⟩)
            clear hfi hja hjn
            have hj9 : (j : Int) < n8 := by have := HN8.out; omega
            have hj8 : ¬ n8 ≤ j := by have := HN8.out; omega
            have hj7 : (0 : Int) ≤ j := by omega
            clear hj
            go_upto_region 10 with (first
              | (go_at_call 9; (with_reducible refine c9.mono ?_); rintro e w5 ⟨rfl, B5⟩; clear c9 y0 y1))
            have HU5 := Lib.hid (HU3.out.below B5)
            have RN5 := Lib.hid ((B5.block _ (Array.getElem?_eq_some_iff.1 RN.out).1).trans RN.out)
            clear B5
            have HC5 := Lib.hid (HC0.out.keep (HU5.out.be.block b0 hb0))
            obtain ⟨q0, q1, q2, q3, _⟩ := HC5.out
            go_upto_region 17 with (fail)
            clear q0 q1 q2 q3
            obtain ⟨y0, y1⟩ := row2 RN5.out
            have c11 := Drop_there HU5.out.tr HUA.out.2.wf X Y HPO.out.1 HWAS.out (by have := drop_len t X Y HWAS.out; have := HLE.out; omega)
            go_upto_region 21 with (first
              | (go_at_call 11; (with_reducible refine c11.mono ?_); rintro e w6 ⟨rfl, bs', T6, fr6, G6⟩; clear c11))
            have HU7 := Lib.hid (HU5.out.drop HWAS.out T6 fr6 G6)
            clear T6 fr6 G6 y0 y1
            obtain ⟨_, _, hv, S6⟩ := HU7.out.ow.form
            injection hv with e1 e2 e3
            subst e1 e3
            have hfit := HU7.out.ow.fits
            have hup := fun W => upto_rt (A := A8) n8 c8' j hfit.2 hfit.1 (by omega) W
            obtain ⟨j1, hje⟩ : ∃ m, m = j + 1 := ⟨_, rfl⟩
            obtain ⟨A9, hfr, S9, hA9⟩ := from_rt S6 n8 c8' j1 HN8.out hfit.1 hfit.2 (by omega)
            have HA8 := Lib.hid hfit.2
            have HA9 := Lib.hid hA9
            have S8 := S6.take j
            have HS8 := Lib.hid S8
            have HS9 := Lib.hid S9
            have hj1 : IntKind.i64.wrap ((j : Int) + 1) = (j1 : Int) := by rw [IntKind.wrap_i64]; omega
            have HJE := Lib.hid hje
            clear hje
            clear e2 S6 S8 S9 hfit hA9
            refine wp_region_noPanic ?_
            refine wp_region_held_drew (S := fun W : World => Below w6.heap.size w6 W) (by kernel_rfl) ((Below.refl _ _).drew) (fun hHeld => ?_)
            generalize w6.drew = wd at *
            have HD := Lib.hid hHeld
            refine wpAnyH_take (i := 0) (oi := { dst := some 98, op := Op.move (Operand.tmp 6), type := 29, pos := "law.go:84", after := #[], guard := none }) (v := .slice A8 n8 c8') rfl (by kernel_rfl) (by kernel_rfl) (by kernel_rfl) (fun _ _ _ h => h) (Or.inl ⟨by rfl, fun w hSw => by go_simp⟩) (by assumption) ?_
            try simp only [Act.put, List.setIfInBounds_toArray, List.set_cons_zero, List.set_cons_succ]
            refine wpAnyH_take (i := 1) (oi := { dst := some 99, op := Op.move (Operand.tmp 9), type := 3, pos := "law.go:84", after := #[], guard := none }) (v := .int .i64 (j : Int)) rfl (by kernel_rfl) (by kernel_rfl) (by kernel_rfl) (fun _ _ _ h => h) (Or.inl ⟨by rfl, fun w hSw => by go_simp⟩) (by assumption) ?_
            try simp only [Act.put, List.setIfInBounds_toArray, List.set_cons_zero, List.set_cons_succ]
            refine wpAnyH_take (i := 2) (oi := { dst := some 100, op := Op.slice 29 (Operand.tmp 98) none (some (Operand.tmp 99)) none, type := 29, pos := "law.go:84", after := #[{ on := 0, ground := Ground.data }, { on := 1, ground := Ground.data }], guard := none }) (v := .slice A8 j c8') rfl (by kernel_rfl) (by kernel_rfl) (by kernel_rfl) (fun _ _ _ h => h) (Or.inl ⟨by rfl, fun w hSw => by have hz := hup w; go_simp⟩) (by assumption) ?_
            try simp only [Act.put, List.setIfInBounds_toArray, List.set_cons_zero, List.set_cons_succ]
            refine wpAnyH_take (i := 4) (oi := { dst := some 102, op := Op.move (Operand.tmp 6), type := 29, pos := "law.go:84", after := #[], guard := none }) (v := .slice A8 n8 c8') rfl (by kernel_rfl) (by kernel_rfl) (by kernel_rfl) (fun _ _ _ h => h) (Or.inl ⟨by rfl, fun w hSw => by go_simp⟩) (by assumption) ?_
            try simp only [Act.put, List.setIfInBounds_toArray, List.set_cons_zero, List.set_cons_succ]
            refine wpAnyH_take (i := 5) (oi := { dst := some 103, op := Op.move (Operand.tmp 9), type := 3, pos := "law.go:84", after := #[], guard := none }) (v := .int .i64 (j : Int)) rfl (by kernel_rfl) (by kernel_rfl) (by kernel_rfl) (fun _ _ _ h => h) (Or.inl ⟨by rfl, fun w hSw => by go_simp⟩) (by assumption) ?_
            try simp only [Act.put, List.setIfInBounds_toArray, List.set_cons_zero, List.set_cons_succ]
            refine wpAnyH_take (i := 6) (oi := { dst := some 104, op := Op.binOp BinOp.add 3 (Operand.tmp 103) (Operand.const (Value.int IntKind.i64 1)) 3, type := 3, pos := "law.go:84", after := #[{ on := 5, ground := Ground.data }], guard := none }) (v := .int .i64 (j1 : Int)) rfl (by kernel_rfl) (by kernel_rfl) (by kernel_rfl) (fun _ _ _ h => h) (Or.inl ⟨by rfl, fun w hSw => by have hz := hj1; go_simp⟩) (by assumption) ?_
            try simp only [Act.put, List.setIfInBounds_toArray, List.set_cons_zero, List.set_cons_succ]
            refine wpAnyH_take (i := 7) (oi := { dst := some 105, op := Op.slice 29 (Operand.tmp 102) (some (Operand.tmp 104)) none none, type := 29, pos := "law.go:84", after := #[{ on := 4, ground := Ground.data }, { on := 6, ground := Ground.data }], guard := none }) (v := .slice A9 (n8 - j1) (c8' - j1)) rfl (by kernel_rfl) (by kernel_rfl) (by kernel_rfl) (fun _ _ _ h => h) (Or.inl ⟨by rfl, fun w hSw => by have hz := hfr w; go_simp⟩) (by assumption) ?_
            try simp only [Act.put, List.setIfInBounds_toArray, List.set_cons_zero, List.set_cons_succ]
            refine wpAnyH_ready (rs := [3]) (by kernel_rfl) (by simp) ?_
            refine AllReadyH.cons (o := { dst := some 101, op := Op.call { callee := Callee.builtin Builtin.append, args := #[Operand.const (Value.slice none 0 0), Operand.tmp 100], argTypes := #[29, 29] }, type := 29, pos := "law.go:84", after := #[{ on := 2, ground := Ground.data }], guard := none }) rfl (fun K hK => ?_) AllReadyH.nil
            refine step_rts rfl (.const (.slice none 0 0)) (.tmp 100) rfl w6.heap.size (.slice none 0 0) [] (ls.take j) A8 j c8' rfl rfl (RtOwn.nil _ _) (by rw [List.length_take]; have := HN8.out; omega) HA8.out (HS8.out.below HD.out) (by simp; have := HN8.out; omega) HD.out.size ?_
            intro v7 w7 O7 G7 _
            have B7 : Below w6.heap.size w6 w7 := HD.out.grown G7 HD.out.size (fun k e => by simp [Value.ownBlock] at e)
            refine hK.out _ _ (B7) (fun hHeld => ?_)
            clear hK K
            try simp only [Act.put, List.setIfInBounds_toArray, List.set_cons_zero, List.set_cons_succ]
            have HB7 := Lib.hid B7
            have HO7 := Lib.hid O7
            clear B7 O7 G7
            refine wpAnyH_ready (rs := [8]) (by kernel_rfl) (by simp) ?_
            refine AllReadyH.cons (o := { dst := some 106, op := Op.call { callee := Callee.builtin Builtin.append, args := #[Operand.tmp 101, Operand.tmp 105], argTypes := #[29, 29] }, type := 29, pos := "law.go:84", after := #[{ on := 3, ground := Ground.data }, { on := 7, ground := Ground.data }, { on := 3, ground := Ground.chain }], guard := none }) rfl (fun K hK => ?_) AllReadyH.nil
            refine step_rts rfl (.tmp 101) (.tmp 105) rfl w6.heap.size v7 ([] ++ ls.take j) (ls.drop j1) A9 (n8 - j1) (c8' - j1) rfl rfl HO7.out (by rw [List.length_drop]; have := HN8.out; omega) HA9.out (HS9.out.below HB7.out) (by simp; have := HN8.out; omega) HB7.out.size ?_
            intro v8 w8 O8 G8 _
            have B8 : Below w6.heap.size w6 w8 := HB7.out.grown G8 HB7.out.size (fun k e => (World.ownsRow.lt HO7.out k e).1)
            have OV := Lib.hid O8
            clear O8 G8
            refine hK.out _ _ (B8) (fun hHeld => ?_)
            clear hK K
            try simp only [Act.put, List.setIfInBounds_toArray, List.set_cons_zero, List.set_cons_succ]
            refine wpAnyH_take (i := 9) (oi := { dst := some 6, op := Op.assign (Operand.tmp 106), type := 29, pos := "law.go:84", after := #[{ on := 8, ground := Ground.data }, { on := 8, ground := Ground.chain }, { on := 0, ground := Ground.phase }, { on := 1, ground := Ground.phase }, { on := 2, ground := Ground.phase }, { on := 3, ground := Ground.phase }, { on := 4, ground := Ground.phase }, { on := 5, ground := Ground.phase }, { on := 6, ground := Ground.phase }, { on := 7, ground := Ground.phase }, { on := 8, ground := Ground.phase }], guard := none }) (v := v8) rfl (by kernel_rfl) (by kernel_rfl) (by kernel_rfl) (fun _ _ _ h => h) (Or.inl ⟨by rfl, fun w hSw => by go_simp⟩) (by assumption) ?_
            try simp only [Act.put, List.setIfInBounds_toArray, List.set_cons_zero, List.set_cons_succ]
            refine wpAnyH_done (by kernel_rfl) ?_ _
            try unfold NoPanic
            have HU6 := Lib.hid (HU7.out.swap hHeld OV.out)
            clear hHeld OV
            have hje := HJE.out
            subst hje
            rw [List.nil_append] at HU6
            have hS' := HUA.out.2.drop hjl.out HJ.out
            have hk9 : (ls.take j ++ ls.drop (j + 1)).length ≤ k + 1 := by simp; have := HN8.out; omega
            have hln := same_len hS'.wf hS'.un hS'.eq
            have HS' := Lib.hid hS'
            have c12 := len_any HU6.out.tr
            rw [hln] at c12
            clear hln hS'
            obtain ⟨A9', c9'', hv9, _⟩ := HU6.out.ow.form
            obtain ⟨n9, hn9⟩ : ∃ n, n = (ls.take j ++ ls.drop (j + 1)).length := ⟨_, rfl⟩
            rw [← hn9] at hv9 c12 hk9
            subst hv9
            have HN9 := Lib.hid hn9
            clear hn9
            go_wp2_with (first
              | (go_at_call 12; (with_reducible refine c12.mono ?_); rintro e w7 ⟨rfl, hw7⟩; rw [← hw7]; clear hw7 w7 c12))
            go_roundw
            case rel => exact ⟨k + 1, by omega, by go_num, Lib.hid ⟨_, _, _, HU6.out, HS'.out, by first | exact hk9 | (rw [← HN9.out]; exact hk9)⟩⟩
            case measure => simp [intOf]; omega
      · obtain rfl : k = len0 := by omega
        go_wp2
        go_meet
        case rel => exact HR
  case rest =>
    obtain ⟨t, ls, bs, hU, hSm, hll⟩ := hcut.out
    obtain ⟨A8, c8', hv8, _⟩ := hU.ow.form
    obtain ⟨n8, hn8⟩ : ∃ n, n = ls.length := ⟨_, rfl⟩
    rw [← hn8] at hv8
    subst hv8
    have HN8 := Lib.hid hn8
    have hn60 : n8 ≤ 60 := by omega
    have HSM := Lib.hid hSm
    have hBW : Below w.heap.size w wc := HW.out.trans (hU.be.mono HW.out.size)
    have har : AR wc (.slice a1 len1 cap1) (30 + 0) := by
      rcases HU1.out with ⟨rfl, rfl, rfl, _⟩ | ⟨x, rfl, g1, g2, g3, g4, g5⟩
      · exact ⟨none, 0, 0, [], rfl, rfl, Nat.zero_le _, by simp, fun k hk => by simp at hk, fun _ => rfl, Nat.le_refl _⟩
      · obtain ⟨us, u1, u2, u3⟩ := us_of (len := len1) (by omega) g4 g5
        exact ⟨some x, len1, cap1, us, rfl, u1.symm, by omega, u2, u3.below hBW, fun e => (by cases e), g1⟩
    have HU : Hid (UA wz wc wz.heap.size (.slice A8 n8 c8') t ls bs ∧ AR wc (.slice a1 len1 cap1) (30 + 0)) := Lib.hid ⟨hU, har⟩
    clear hcut hU hSm hll hn8 hBW har HU1
    generalize wc = wg at *
    go_upto_block 2 with (fail)
    go_cut [1] (fun v1 wx => Hid (UA wz wx wz.heap.size (.slice A8 n8 c8') t ls bs ∧ AR wx v1 (30 + len0)))
    case first =>
      go_wp2
      go_loopw [1, 12] (fun v1 i wr => ∃ k : Nat, k ≤ len0 ∧ i = .int .i64 k ∧ Hid (UA wz wr wz.heap.size (.slice A8 n8 c8') t ls bs ∧ AR wr v1 (30 + k))) (fun _ i _ => len0 - (intOf i).toNat)
      case atStart => exact ⟨0, by omega, rfl, HU⟩
      case round =>
        obtain ⟨k, hk, rfl, HR⟩ := hrel
        clear HU
        by_cases hlt : k < len0
        · have hkz : Hid (k < z0.length) := Lib.hid (by rw [← HL.out]; exact hlt)
          obtain ⟨b0, o0, ea, hb0, hc⟩ := HS.out k hkz.out
          subst ea
          have hU := HR.out.1
          replace hc := hc.keep (hU.be.block b0 hb0)
          obtain ⟨d, hd⟩ : ∃ d, d = z0[k]'(hkz.out) := ⟨_, rfl⟩
          rw [← hd] at hc
          have hrk := hc.ok
          have hpo := place_ok d hc.ok
          have c8 := fun W => place_any d hc.ok W
          obtain ⟨k0, k1, k2, k3, _⟩ := hc
          obtain ⟨X, hX⟩ : ∃ X, X = d.pa := ⟨_, rfl⟩
          obtain ⟨Y, hY⟩ : ∃ Y, Y = d.pk := ⟨_, rfl⟩
          rw [← hX, ← hY] at c8 hpo
          have HXY := Lib.hid (And.intro hX hY)
          have HPO := Lib.hid hpo
          clear hX hY hrk hpo
          obtain ⟨A1, n1, c1, _, hv1, -⟩ := HR.out.2
          subst hv1
          have HUA := Lib.hid (And.intro hU HSM.out)
          clear hd hU
          go_upto_region 28 with (first
            | (go_at_call 8; (with_reducible refine (c8 _).mono ?_); rintro e w2 ⟨rfl, B2⟩; have HB2 := Lib.hid B2; clear B2 c8))
          have RN := Lib.hid (heap_alloc_new w2 (.cells #[.int .u32 (X : Int), .int .u8 (Y : Int)] 32))
          have HB3 := Lib.hid (HB2.out.trans ((Below.refl w2.heap.size w2).alloc (Nat.le_refl _) (.cells #[.int .u32 (X : Int), .int .u8 (Y : Int)] 32) |>.mono HB2.out.size))
          clear HB2
          generalize hg3 : w2.heap.size = g3 at *
          generalize World.alloc w2 _ = w3 at *
          clear hg3 k0 k1 k2 k3
          have HU3 := Lib.hid (HUA.out.1.below HB3.out)
          have HA3 := Lib.hid (HR.out.2.below HB3.out)
          obtain ⟨y0, y1⟩ := row2 RN.out
          have c13 := Get_any HU3.out.tr HUA.out.2.wf X Y HPO.out.1
          rcases findI_spec ls X Y with ⟨hfi, hno⟩ | ⟨j, hj, hfi, hja, hjn⟩
          · rw [get_not HUA.out.2 hno] at c13
            have HFI := Lib.hid hfi
            clear hfi hno
            unfold ocl at c13
            dsimp only [Option.isSome] at c13
            go_upto_region 29 with (first
              | (go_at_call 13; (with_reducible refine c13.mono ?_); rintro e w4 ⟨rfl, B4⟩; clear c13))
            have RN4 := Lib.hid (heap_alloc_new w4 (.cells #[.int .u32 0, .int .u8 0, .int .i64 0, .int .u16 0, .int .u16 0] 39))
            have HB5 := Lib.hid (B4.trans ((Below.refl w4.heap.size w4).alloc (Nat.le_refl _) (.cells #[.int .u32 0, .int .u8 0, .int .i64 0, .int .u16 0, .int .u16 0] 39) |>.mono B4.size))
            clear B4 y0 y1
            generalize hg5 : w4.heap.size = g5 at *
            generalize World.alloc w4 _ = w5 at *
            clear hg5
            have HU5 := Lib.hid (HU3.out.below HB5.out)
            have HA5 := Lib.hid (HA3.out.below HB5.out)
            have RN5 := Lib.hid ((HB5.out.block _ (Array.getElem?_eq_some_iff.1 RN.out).1).trans RN.out)
            obtain ⟨y0, y1⟩ := row2 RN5.out
            obtain ⟨_, _, hv4, S4⟩ := HU5.out.ow.form
            injection hv4 with e1 e2 e3
            subst e1 e3
            have c9 := find_any w5 A8 n8 c8' ls HN8.out (by omega) S4 X Y
            rw [HFI.out] at c9
            clear S4 e2
            go_upto_region 30 with (first
              | (go_at_call 9; (with_reducible refine c9.mono ?_); rintro e w6 ⟨rfl, B6⟩; clear c9 y0 y1))
            have HU6 := Lib.hid (HU5.out.below B6)
            have HA6 := Lib.hid (HA5.out.below B6)
            have RN6 := Lib.hid ((B6.block _ (Array.getElem?_eq_some_iff.1 RN5.out).1).trans RN5.out)
            have RQ6 := Lib.hid ((B6.block _ (Array.getElem?_eq_some_iff.1 RN4.out).1).trans RN4.out)
            clear B6
            refine wp_region_noPanic ?_
            refine wp_region_held_drew (S := fun W : World => Below w6.heap.size w6 W) (by kernel_rfl) ((Below.refl _ _).drew) (fun hHeld => ?_)
            generalize w6.drew = wd at *
            refine wpAnyH_take (i := 0) (oi := { dst := some 132, op := Op.move (Operand.tmp 15), type := 4, pos := "law.go:95", after := #[], guard := none }) (v := .bool false) rfl (by kernel_rfl) (by kernel_rfl) (by kernel_rfl) (fun _ _ _ h => h) (Or.inl ⟨by rfl, fun w hSw => by go_simp⟩) (by assumption) ?_
            try simp only [Act.put, List.setIfInBounds_toArray, List.set_cons_zero, List.set_cons_succ]
            refine wpAnyH_take (i := 1) (oi := { dst := some 133, op := Op.move (Operand.tmp 16), type := 3, pos := "law.go:95", after := #[], guard := none }) (v := .int .i64 (-1)) rfl (by kernel_rfl) (by kernel_rfl) (by kernel_rfl) (fun _ _ _ h => h) (Or.inl ⟨by rfl, fun w hSw => by go_simp⟩) (by assumption) ?_
            try simp only [Act.put, List.setIfInBounds_toArray, List.set_cons_zero, List.set_cons_succ]
            refine wpAnyH_take (i := 2) (oi := { dst := some 134, op := Op.binOp BinOp.geq 3 (Operand.tmp 133) (Operand.const (Value.int IntKind.i64 0)) 3, type := 4, pos := "law.go:95", after := #[{ on := 1, ground := Ground.data }], guard := none }) (v := .bool false) rfl (by kernel_rfl) (by kernel_rfl) (by kernel_rfl) (fun _ _ _ h => h) (Or.inl ⟨by rfl, fun w hSw => by go_simp⟩) (by assumption) ?_
            try simp only [Act.put, List.setIfInBounds_toArray, List.set_cons_zero, List.set_cons_succ]
            refine wpAnyH_take (i := 3) (oi := { dst := some 135, op := Op.binOp BinOp.neq 4 (Operand.tmp 132) (Operand.tmp 134) 4, type := 4, pos := "law.go:95", after := #[{ on := 0, ground := Ground.data }, { on := 2, ground := Ground.data }], guard := none }) (v := .bool false) rfl (by kernel_rfl) (by kernel_rfl) (by kernel_rfl) (fun _ _ _ h => h) (Or.inl ⟨by rfl, fun w hSw => by go_simp⟩) (by assumption) ?_
            try simp only [Act.put, List.setIfInBounds_toArray, List.set_cons_zero, List.set_cons_succ]
            refine wpAnyH_take (i := 4) (oi := { dst := some 136, op := Op.move (Operand.tmp 135), type := 4, pos := "law.go:95", after := #[{ on := 3, ground := Ground.data }], guard := none }) (v := .bool false) rfl (by kernel_rfl) (by kernel_rfl) (by kernel_rfl) (fun _ _ _ h => h) (Or.inl ⟨by rfl, fun w hSw => by go_simp⟩) (by assumption) ?_
            try simp only [Act.put, List.setIfInBounds_toArray, List.set_cons_zero, List.set_cons_succ]
            refine wpAnyH_take (i := 5) (oi := { dst := some 137, op := Op.move (Operand.tmp 15), type := 4, pos := "law.go:95", after := #[{ on := 4, ground := Ground.guard }], guard := some (4, false) }) (v := .bool false) rfl (by kernel_rfl) (by kernel_rfl) (by kernel_rfl) (fun _ _ _ h => h) (Or.inl ⟨by rfl, fun w hSw => by go_simp⟩) (by assumption) ?_
            try simp only [Act.put, List.setIfInBounds_toArray, List.set_cons_zero, List.set_cons_succ]
            refine wpAnyH_take (i := 6) (oi := { dst := some 138, op := Op.move (Operand.tmp 137), type := 4, pos := "law.go:95", after := #[{ on := 5, ground := Ground.data }, { on := 4, ground := Ground.chain }, { on := 4, ground := Ground.guard }], guard := some (4, false) }) (v := .bool false) rfl (by kernel_rfl) (by kernel_rfl) (by kernel_rfl) (fun _ _ _ h => h) (Or.inl ⟨by rfl, fun w hSw => by go_simp⟩) (by assumption) ?_
            try simp only [Act.put, List.setIfInBounds_toArray, List.set_cons_zero, List.set_cons_succ]
            refine wpAnyH_take (i := 7) (oi := { dst := some 139, op := Op.load 39 (Operand.tmp 14), type := 39, pos := "law.go:95", after := #[{ on := 6, ground := Ground.guard }], guard := some (6, true) }) (v := undef) rfl (by kernel_rfl) (by kernel_rfl) (by kernel_rfl) (fun _ _ _ h => h) (Or.inr ⟨by rfl, rfl⟩) (by assumption) ?_
            try simp only [Act.put, List.setIfInBounds_toArray, List.set_cons_zero, List.set_cons_succ]
            refine wpAnyH_take (i := 8) (oi := { dst := some 140, op := Op.move (Operand.tmp 6), type := 29, pos := "law.go:95", after := #[{ on := 6, ground := Ground.guard }], guard := some (6, true) }) (v := undef) rfl (by kernel_rfl) (by kernel_rfl) (by kernel_rfl) (fun _ _ _ h => h) (Or.inr ⟨by rfl, rfl⟩) (by assumption) ?_
            try simp only [Act.put, List.setIfInBounds_toArray, List.set_cons_zero, List.set_cons_succ]
            refine wpAnyH_take (i := 9) (oi := { dst := some 141, op := Op.move (Operand.tmp 16), type := 3, pos := "law.go:95", after := #[{ on := 6, ground := Ground.guard }], guard := some (6, true) }) (v := undef) rfl (by kernel_rfl) (by kernel_rfl) (by kernel_rfl) (fun _ _ _ h => h) (Or.inr ⟨by rfl, rfl⟩) (by assumption) ?_
            try simp only [Act.put, List.setIfInBounds_toArray, List.set_cons_zero, List.set_cons_succ]
            refine wpAnyH_take (i := 10) (oi := { dst := some 142, op := Op.indexAddr 29 (Operand.tmp 140) (Operand.tmp 141), type := 0, pos := "law.go:95", after := #[{ on := 8, ground := Ground.data }, { on := 9, ground := Ground.data }, { on := 6, ground := Ground.guard }], guard := some (6, true) }) (v := undef) rfl (by kernel_rfl) (by kernel_rfl) (by kernel_rfl) (fun _ _ _ h => h) (Or.inr ⟨by rfl, rfl⟩) (by assumption) ?_
            try simp only [Act.put, List.setIfInBounds_toArray, List.set_cons_zero, List.set_cons_succ]
            refine wpAnyH_take (i := 11) (oi := { dst := some 143, op := Op.load 39 (Operand.tmp 142), type := 39, pos := "law.go:95", after := #[{ on := 10, ground := Ground.data }, { on := 6, ground := Ground.guard }], guard := some (6, true) }) (v := undef) rfl (by kernel_rfl) (by kernel_rfl) (by kernel_rfl) (fun _ _ _ h => h) (Or.inr ⟨by rfl, rfl⟩) (by assumption) ?_
            try simp only [Act.put, List.setIfInBounds_toArray, List.set_cons_zero, List.set_cons_succ]
            refine wpAnyH_take (i := 12) (oi := { dst := some 144, op := Op.binOp BinOp.neq 39 (Operand.tmp 139) (Operand.tmp 143) 39, type := 4, pos := "law.go:95", after := #[{ on := 7, ground := Ground.data }, { on := 11, ground := Ground.data }, { on := 6, ground := Ground.guard }], guard := some (6, true) }) (v := undef) rfl (by kernel_rfl) (by kernel_rfl) (by kernel_rfl) (fun _ _ _ h => h) (Or.inr ⟨by rfl, rfl⟩) (by assumption) ?_
            try simp only [Act.put, List.setIfInBounds_toArray, List.set_cons_zero, List.set_cons_succ]
            refine wpAnyH_take (i := 13) (oi := { dst := some 145, op := Op.pick (Operand.tmp 138) (Operand.tmp 144) (Operand.const (Value.bool false)), type := 4, pos := "law.go:95", after := #[{ on := 6, ground := Ground.data }, { on := 12, ground := Ground.data }, { on := 4, ground := Ground.guard }], guard := some (4, false) }) (v := .bool false) rfl (by kernel_rfl) (by kernel_rfl) (by kernel_rfl) (fun _ _ _ h => h) (Or.inl ⟨by rfl, fun w hSw => by go_simp⟩) (by assumption) ?_
            try simp only [Act.put, List.setIfInBounds_toArray, List.set_cons_zero, List.set_cons_succ]
            refine wpAnyH_take (i := 14) (oi := { dst := some 146, op := Op.pick (Operand.tmp 136) (Operand.const (Value.bool true)) (Operand.tmp 145), type := 4, pos := "law.go:95", after := #[{ on := 4, ground := Ground.data }, { on := 13, ground := Ground.data }], guard := none }) (v := .bool false) rfl (by kernel_rfl) (by kernel_rfl) (by kernel_rfl) (fun _ _ _ h => h) (Or.inl ⟨by rfl, fun w hSw => by go_simp⟩) (by assumption) ?_
            try simp only [Act.put, List.setIfInBounds_toArray, List.set_cons_zero, List.set_cons_succ]
            refine wpAnyH_done (by kernel_rfl) ?_ _
            try unfold NoPanic
            go_upto_region 32 with (fail)
            have HU7 := Lib.hid (HU6.out.below hHeld)
            have HA7 := Lib.hid (HA6.out.below hHeld)
            have RN7 := Lib.hid ((hHeld.block _ (Array.getElem?_eq_some_iff.1 RN6.out).1).trans RN6.out)
            clear hHeld
            obtain ⟨A1', n1', c1', us, hv1, hn1, hn1k, hub, hus, hA1, hnc⟩ := HA7.out
            injection hv1 with e1 e2 e3
            subst e1 e2 e3
            have HUS := Lib.hid hus
            have HN1 := Lib.hid hn1
            have HUB := Lib.hid hub
            have HA1 := Lib.hid hA1
            have HN1K := Lib.hid hn1k
            clear hus hn1 hub hA1 hn1k hnc
            refine wp_region_noPanic ?_
            refine wp_region_held_drew (S := fun W : World => Below wd.heap.size wd W) (by kernel_rfl) ((Below.refl _ _).drew) (fun hHeld => ?_)
            generalize wd.drew = wf at *
            have HF := Lib.hid hHeld
            clear hHeld
            refine wpAnyH_take (i := 0) (oi := { dst := some 147, op := Op.move (Operand.tmp 1), type := 23, pos := "law.go:98", after := #[], guard := none }) (v := .slice A1 n1 c1) rfl (by kernel_rfl) (by kernel_rfl) (by kernel_rfl) (fun _ _ _ h => h) (Or.inl ⟨by rfl, fun w hSw => by go_simp⟩) (by assumption) ?_
            try simp only [Act.put, List.setIfInBounds_toArray, List.set_cons_zero, List.set_cons_succ]
            refine wpAnyH_take (i := 2) (oi := { dst := some 149, op := Op.fieldAddr 32 (Operand.tmp 13) 0, type := 0, pos := "law.go:98", after := #[], guard := none }) (v := .pointer (some ⟨g3, 0, none⟩)) rfl (by kernel_rfl) (by kernel_rfl) (by kernel_rfl) (fun _ _ _ h => h) (Or.inl ⟨by rfl, fun w hSw => by go_simp⟩) (by assumption) ?_
            try simp only [Act.put, List.setIfInBounds_toArray, List.set_cons_zero, List.set_cons_succ]
            refine wpAnyH_take (i := 3) (oi := { dst := some 150, op := Op.load 30 (Operand.tmp 149), type := 30, pos := "law.go:98", after := #[{ on := 2, ground := Ground.data }], guard := none }) (v := .int .u32 (X : Int)) rfl (by kernel_rfl) (by kernel_rfl) (by kernel_rfl) (fun _ _ _ h => h) (Or.inl ⟨by rfl, fun w hSw => by obtain ⟨y0, y1⟩ := row2 ((hSw.block _ (Array.getElem?_eq_some_iff.1 RN7.out).1).trans RN7.out); go_simp⟩) (by assumption) ?_
            try simp only [Act.put, List.setIfInBounds_toArray, List.set_cons_zero, List.set_cons_succ]
            refine wpAnyH_ready (rs := [1, 4]) (by kernel_rfl) (by simp) ?_
            refine (AllReadyH.cons (o := { dst := some 148, op := Op.call { callee := Callee.builtin Builtin.append, args := #[Operand.const (Value.slice none 0 0), Operand.tmp 147], argTypes := #[23, 23] }, type := 23, pos := "law.go:98", after := #[{ on := 0, ground := Ground.data }], guard := none }) rfl (fun K hK => ?_) (AllReadyH.cons (o := { dst := some 151, op := Op.buildSlice 23 1 #[(0, Operand.tmp 150)], type := 23, pos := "law.go:98", after := #[{ on := 3, ground := Ground.data }], guard := none }) rfl (fun K hK => ?_) AllReadyH.nil))
            · refine step_us rfl (.const (.slice none 0 0)) (.tmp 147) rfl wd.heap.size (.slice none 0 0) [] us A1 n1 c1 rfl rfl (UOwn.nil _ _) HN1.out HA1.out (HUS.out.below HF.out) (by simp; have := HN1.out; have := HN1K.out; omega) HF.out.size ?_
              intro v7 w7 O7 G7
              have B7 : Below wd.heap.size wd w7 := HF.out.grown G7 HF.out.size (fun k e => by simp [Value.ownBlock] at e)
              refine hK.out _ _ (B7) (fun hHeld => ?_)
              clear hK K
              try simp only [Act.put, List.setIfInBounds_toArray, List.set_cons_zero, List.set_cons_succ]
              have HB7 := Lib.hid B7
              have HO7 := Lib.hid O7
              clear B7 O7 G7 hHeld
              refine wpAnyH_ready (rs := [4]) (by kernel_rfl) (by simp) ?_
              refine AllReadyH.cons (o := { dst := some 151, op := Op.buildSlice 23 1 #[(0, Operand.tmp 150)], type := 23, pos := "law.go:98", after := #[{ on := 3, ground := Ground.data }], guard := none }) rfl (fun K hK => ?_) AllReadyH.nil
              go_simp
              refine hK.out _ _ (HB7.out.alloc HB7.out.size (.cells #[.int .u32 (X : Int)] 30)) (fun hHeld => ?_)
              clear hK K
              try simp only [Act.put, List.setIfInBounds_toArray, List.set_cons_zero, List.set_cons_succ]
              have HO8 := Lib.hid (HO7.out.kept ((Below.refl w7.heap.size w7).alloc (Nat.le_refl _) (.cells #[.int .u32 (X : Int)] 30)))
              have HB8 := Lib.hid (HB7.out.alloc HB7.out.size (.cells #[.int .u32 (X : Int)] 30))
              have hx := heap_alloc_new w7 (.cells #[.int .u32 (X : Int)] 30)
              generalize hq8 : w7.heap.size = q8 at *
              generalize World.alloc w7 _ = w8 at *
              have HX8 : Hid (US w8 (some ⟨q8, 0, none⟩) [X]) := Lib.hid fun k hk => by
                obtain rfl : k = 0 := by simpa using hk
                exact ⟨q8, 0, rfl, (Array.getElem?_eq_some_iff.1 hx).1, cell_of_row w8 q8 0 _ 30 (0, 0) hx⟩
              clear hx hq8 hHeld
              refine wpAnyH_ready (rs := [5]) (by kernel_rfl) (by simp) ?_
              refine AllReadyH.cons (o := { dst := some 152, op := Op.call { callee := Callee.builtin Builtin.append, args := #[Operand.tmp 148, Operand.tmp 151], argTypes := #[23, 23] }, type := 23, pos := "law.go:98", after := #[{ on := 1, ground := Ground.data }, { on := 4, ground := Ground.data }, { on := 1, ground := Ground.chain }], guard := none }) rfl (fun K hK => ?_) AllReadyH.nil
              refine step_us rfl (.tmp 148) (.tmp 151) rfl wd.heap.size v7 ([] ++ us) [X] (some ⟨q8, 0, none⟩) 1 1 rfl rfl HO8.out rfl (by simp) HX8.out (by simp; have := HN1.out; have := HN1K.out; omega) HB8.out.size ?_
              intro v9 we O9 G9
              have B9 : Below wd.heap.size wd we := HB8.out.grown G9 HB8.out.size (fun k e => (World.ownsRow.lt HO8.out k e).1)
              have HOE := Lib.hid O9
              have HBE := Lib.hid B9
              clear O9 G9
              refine hK.out _ _ (B9) (fun hHeld => ?_)
              clear hK K
              try simp only [Act.put, List.setIfInBounds_toArray, List.set_cons_zero, List.set_cons_succ]
              clear B9
              refine wpAnyH_take (i := 6) (oi := { dst := some 1, op := Op.assign (Operand.tmp 152), type := 23, pos := "law.go:98", after := #[{ on := 5, ground := Ground.data }, { on := 5, ground := Ground.chain }, { on := 0, ground := Ground.phase }, { on := 1, ground := Ground.phase }, { on := 2, ground := Ground.phase }, { on := 3, ground := Ground.phase }, { on := 4, ground := Ground.phase }, { on := 5, ground := Ground.phase }], guard := none }) (v := v9) rfl (by kernel_rfl) (by kernel_rfl) (by kernel_rfl) (fun _ _ _ h => h) (Or.inl ⟨by rfl, fun w hSw => by go_simp⟩) (by assumption) ?_
              try simp only [Act.put, List.setIfInBounds_toArray, List.set_cons_zero, List.set_cons_succ]
              refine wpAnyH_done (by kernel_rfl) ?_ _
              try unfold NoPanic
              have HU8 := Lib.hid (HU7.out.below HBE.out)
              have har : AR we v9 (30 + (k + 1)) := by
                obtain ⟨A, c, h1, h2, h3, h4⟩ := HOE.out.form
                exact ⟨A, _, c, _, h1, rfl, by simp; have := HN1.out; have := HN1K.out; omega, fun u hu => by rcases List.mem_append.1 hu with m | m; exact HUB.out u (by simpa using m); rw [List.mem_singleton.1 m]; exact HPO.out.1, h2, h3, h4⟩
              have HAR := Lib.hid har
              clear har hHeld
              go_wp2
              go_roundw
              case rel => exact ⟨k + 1, by omega, by go_num, Lib.hid ⟨HU8.out, HAR.out⟩⟩
              case measure => simp [intOf]; omega
            · go_simp
              refine hK.out _ _ (HF.out.alloc HF.out.size (.cells #[.int .u32 (X : Int)] 30)) (fun hHeld => ?_)
              clear hK K
              try simp only [Act.put, List.setIfInBounds_toArray, List.set_cons_zero, List.set_cons_succ]
              have HB8' := Lib.hid (HF.out.alloc HF.out.size (.cells #[.int .u32 (X : Int)] 30))
              have hx := heap_alloc_new wf (.cells #[.int .u32 (X : Int)] 30)
              generalize hq8 : wf.heap.size = q8 at *
              generalize World.alloc wf _ = w8' at *
              have HX8' : Hid (US w8' (some ⟨q8, 0, none⟩) [X]) := Lib.hid fun k hk => by
                obtain rfl : k = 0 := by simpa using hk
                exact ⟨q8, 0, rfl, (Array.getElem?_eq_some_iff.1 hx).1, cell_of_row w8' q8 0 _ 30 (0, 0) hx⟩
              clear hx hq8 hHeld
              refine wpAnyH_ready (rs := [1]) (by kernel_rfl) (by simp) ?_
              refine AllReadyH.cons (o := { dst := some 148, op := Op.call { callee := Callee.builtin Builtin.append, args := #[Operand.const (Value.slice none 0 0), Operand.tmp 147], argTypes := #[23, 23] }, type := 23, pos := "law.go:98", after := #[{ on := 0, ground := Ground.data }], guard := none }) rfl (fun K hK => ?_) AllReadyH.nil
              refine step_us rfl (.const (.slice none 0 0)) (.tmp 147) rfl wd.heap.size (.slice none 0 0) [] us A1 n1 c1 rfl rfl (UOwn.nil _ _) HN1.out HA1.out (HUS.out.below HB8'.out) (by simp; have := HN1.out; have := HN1K.out; omega) HB8'.out.size ?_
              intro v7 w8 O7 G7
              have B7 : Below wd.heap.size wd w8 := HB8'.out.grown G7 HB8'.out.size (fun k e => by simp [Value.ownBlock] at e)
              refine hK.out _ _ (B7) (fun hHeld => ?_)
              clear hK K
              try simp only [Act.put, List.setIfInBounds_toArray, List.set_cons_zero, List.set_cons_succ]
              have HB8 := Lib.hid B7
              have HO8 := Lib.hid O7
              have HX8 := Lib.hid (HX8'.out.below ((Below.refl w8'.heap.size w8').grown G7 (Nat.le_refl _) (fun k e => by simp [Value.ownBlock] at e)))
              clear B7 O7 G7 hHeld
              refine wpAnyH_ready (rs := [5]) (by kernel_rfl) (by simp) ?_
              refine AllReadyH.cons (o := { dst := some 152, op := Op.call { callee := Callee.builtin Builtin.append, args := #[Operand.tmp 148, Operand.tmp 151], argTypes := #[23, 23] }, type := 23, pos := "law.go:98", after := #[{ on := 1, ground := Ground.data }, { on := 4, ground := Ground.data }, { on := 1, ground := Ground.chain }], guard := none }) rfl (fun K hK => ?_) AllReadyH.nil
              refine step_us rfl (.tmp 148) (.tmp 151) rfl wd.heap.size v7 ([] ++ us) [X] (some ⟨q8, 0, none⟩) 1 1 rfl rfl HO8.out rfl (by simp) HX8.out (by simp; have := HN1.out; have := HN1K.out; omega) HB8.out.size ?_
              intro v9 we O9 G9
              have B9 : Below wd.heap.size wd we := HB8.out.grown G9 HB8.out.size (fun k e => (World.ownsRow.lt HO8.out k e).1)
              have HOE := Lib.hid O9
              have HBE := Lib.hid B9
              clear O9 G9
              refine hK.out _ _ (B9) (fun hHeld => ?_)
              clear hK K
              try simp only [Act.put, List.setIfInBounds_toArray, List.set_cons_zero, List.set_cons_succ]
              clear B9
              refine wpAnyH_take (i := 6) (oi := { dst := some 1, op := Op.assign (Operand.tmp 152), type := 23, pos := "law.go:98", after := #[{ on := 5, ground := Ground.data }, { on := 5, ground := Ground.chain }, { on := 0, ground := Ground.phase }, { on := 1, ground := Ground.phase }, { on := 2, ground := Ground.phase }, { on := 3, ground := Ground.phase }, { on := 4, ground := Ground.phase }, { on := 5, ground := Ground.phase }], guard := none }) (v := v9) rfl (by kernel_rfl) (by kernel_rfl) (by kernel_rfl) (fun _ _ _ h => h) (Or.inl ⟨by rfl, fun w hSw => by go_simp⟩) (by assumption) ?_
              try simp only [Act.put, List.setIfInBounds_toArray, List.set_cons_zero, List.set_cons_succ]
              refine wpAnyH_done (by kernel_rfl) ?_ _
              try unfold NoPanic
              have HU8 := Lib.hid (HU7.out.below HBE.out)
              have har : AR we v9 (30 + (k + 1)) := by
                obtain ⟨A, c, h1, h2, h3, h4⟩ := HOE.out.form
                exact ⟨A, _, c, _, h1, rfl, by simp; have := HN1.out; have := HN1K.out; omega, fun u hu => by rcases List.mem_append.1 hu with m | m; exact HUB.out u (by simpa using m); rw [List.mem_singleton.1 m]; exact HPO.out.1, h2, h3, h4⟩
              have HAR := Lib.hid har
              clear har hHeld
              go_wp2
              go_roundw
              case rel => exact ⟨k + 1, by omega, by go_num, Lib.hid ⟨HU8.out, HAR.out⟩⟩
              case measure => simp [intOf]; omega
          · obtain ⟨r, hr⟩ : ∃ r, r = ls[j] := ⟨_, rfl⟩
            have hjl : Hid (j < ls.length) := Lib.hid hj
            have HJR : Hid (r = ls[j]'(hjl.out)) := Lib.hid hr
            rw [get_yes HUA.out.2 hj ⟨hja, hjn⟩, ← hr] at c13
            obtain ⟨ra, rn, via, mt, sq⟩ := r
            have HFI := Lib.hid hfi
            have hj9 : (j : Int) < n8 := by have := HN8.out; omega
            have hj8 : ¬ n8 ≤ j := by have := HN8.out; omega
            have hj7 : (0 : Int) ≤ j := by omega
            clear hfi hja hjn hr hj
            unfold ocl R.cl at c13
            dsimp only [Option.isSome] at c13
            go_upto_region 29 with (first
              | (go_at_call 13; (with_reducible refine c13.mono ?_); rintro e w4 ⟨rfl, B4⟩; clear c13))
            have RN4 := Lib.hid (heap_alloc_new w4 (.cells #[.int .u32 (ra : Int), .int .u8 (rn : Int), .int .i64 via, .int .u16 mt, .int .u16 sq] 39))
            have HB5 := Lib.hid (B4.trans ((Below.refl w4.heap.size w4).alloc (Nat.le_refl _) (.cells #[.int .u32 (ra : Int), .int .u8 (rn : Int), .int .i64 via, .int .u16 mt, .int .u16 sq] 39) |>.mono B4.size))
            clear B4 y0 y1
            generalize hg5 : w4.heap.size = g5 at *
            generalize World.alloc w4 _ = w5 at *
            clear hg5
            have HU5 := Lib.hid (HU3.out.below HB5.out)
            have HA5 := Lib.hid (HA3.out.below HB5.out)
            have RN5 := Lib.hid ((HB5.out.block _ (Array.getElem?_eq_some_iff.1 RN.out).1).trans RN.out)
            obtain ⟨y0, y1⟩ := row2 RN5.out
            obtain ⟨_, _, hv4, S4⟩ := HU5.out.ow.form
            injection hv4 with e1 e2 e3
            subst e1 e3
            have c9 := find_any w5 A8 n8 c8' ls HN8.out (by omega) S4 X Y
            rw [HFI.out] at c9
            clear S4 e2
            go_upto_region 30 with (first
              | (go_at_call 9; (with_reducible refine c9.mono ?_); rintro e w6 ⟨rfl, B6⟩; clear c9 y0 y1))
            have HU6 := Lib.hid (HU5.out.below B6)
            have HA6 := Lib.hid (HA5.out.below B6)
            have RN6 := Lib.hid ((B6.block _ (Array.getElem?_eq_some_iff.1 RN5.out).1).trans RN5.out)
            have RQ6 := Lib.hid ((B6.block _ (Array.getElem?_eq_some_iff.1 RN4.out).1).trans RN4.out)
            clear B6
            obtain ⟨gl, cap, hv, hrt, hfz⟩ := HU6.out.ow.open hjl.out
            injection hv with e1 e2 e3
            subst e1 e3
            rw [← HJR.out] at hrt
            have HGL : Hid (gl < w6.heap.size) := Lib.hid ((World.ownsRow.lt HU6.out.ow gl rfl).2)
            have HRT := Lib.hid hrt
            clear e2 hfz hrt
            refine wp_region_noPanic ?_
            refine wp_region_held_drew (S := fun W : World => Below w6.heap.size w6 W) (by kernel_rfl) ((Below.refl _ _).drew) (fun hHeld => ?_)
            generalize w6.drew = wd at *
            refine wpAnyH_take (i := 0) (oi := { dst := some 132, op := Op.move (Operand.tmp 15), type := 4, pos := "law.go:95", after := #[], guard := none }) (v := .bool true) rfl (by kernel_rfl) (by kernel_rfl) (by kernel_rfl) (fun _ _ _ h => h) (Or.inl ⟨by rfl, fun w hSw => by go_simp⟩) (by assumption) ?_
            try simp only [Act.put, List.setIfInBounds_toArray, List.set_cons_zero, List.set_cons_succ]
            refine wpAnyH_take (i := 1) (oi := { dst := some 133, op := Op.move (Operand.tmp 16), type := 3, pos := "law.go:95", after := #[], guard := none }) (v := .int .i64 (j : Int)) rfl (by kernel_rfl) (by kernel_rfl) (by kernel_rfl) (fun _ _ _ h => h) (Or.inl ⟨by rfl, fun w hSw => by go_simp⟩) (by assumption) ?_
            try simp only [Act.put, List.setIfInBounds_toArray, List.set_cons_zero, List.set_cons_succ]
            refine wpAnyH_take (i := 2) (oi := { dst := some 134, op := Op.binOp BinOp.geq 3 (Operand.tmp 133) (Operand.const (Value.int IntKind.i64 0)) 3, type := 4, pos := "law.go:95", after := #[{ on := 1, ground := Ground.data }], guard := none }) (v := .bool true) rfl (by kernel_rfl) (by kernel_rfl) (by kernel_rfl) (fun _ _ _ h => h) (Or.inl ⟨by rfl, fun w hSw => by go_simp⟩) (by assumption) ?_
            try simp only [Act.put, List.setIfInBounds_toArray, List.set_cons_zero, List.set_cons_succ]
            refine wpAnyH_take (i := 3) (oi := { dst := some 135, op := Op.binOp BinOp.neq 4 (Operand.tmp 132) (Operand.tmp 134) 4, type := 4, pos := "law.go:95", after := #[{ on := 0, ground := Ground.data }, { on := 2, ground := Ground.data }], guard := none }) (v := .bool false) rfl (by kernel_rfl) (by kernel_rfl) (by kernel_rfl) (fun _ _ _ h => h) (Or.inl ⟨by rfl, fun w hSw => by go_simp⟩) (by assumption) ?_
            try simp only [Act.put, List.setIfInBounds_toArray, List.set_cons_zero, List.set_cons_succ]
            refine wpAnyH_take (i := 4) (oi := { dst := some 136, op := Op.move (Operand.tmp 135), type := 4, pos := "law.go:95", after := #[{ on := 3, ground := Ground.data }], guard := none }) (v := .bool false) rfl (by kernel_rfl) (by kernel_rfl) (by kernel_rfl) (fun _ _ _ h => h) (Or.inl ⟨by rfl, fun w hSw => by go_simp⟩) (by assumption) ?_
            try simp only [Act.put, List.setIfInBounds_toArray, List.set_cons_zero, List.set_cons_succ]
            refine wpAnyH_take (i := 5) (oi := { dst := some 137, op := Op.move (Operand.tmp 15), type := 4, pos := "law.go:95", after := #[{ on := 4, ground := Ground.guard }], guard := some (4, false) }) (v := .bool true) rfl (by kernel_rfl) (by kernel_rfl) (by kernel_rfl) (fun _ _ _ h => h) (Or.inl ⟨by rfl, fun w hSw => by go_simp⟩) (by assumption) ?_
            try simp only [Act.put, List.setIfInBounds_toArray, List.set_cons_zero, List.set_cons_succ]
            refine wpAnyH_take (i := 6) (oi := { dst := some 138, op := Op.move (Operand.tmp 137), type := 4, pos := "law.go:95", after := #[{ on := 5, ground := Ground.data }, { on := 4, ground := Ground.chain }, { on := 4, ground := Ground.guard }], guard := some (4, false) }) (v := .bool true) rfl (by kernel_rfl) (by kernel_rfl) (by kernel_rfl) (fun _ _ _ h => h) (Or.inl ⟨by rfl, fun w hSw => by go_simp⟩) (by assumption) ?_
            try simp only [Act.put, List.setIfInBounds_toArray, List.set_cons_zero, List.set_cons_succ]
            refine wpAnyH_take (i := 7) (oi := { dst := some 139, op := Op.load 39 (Operand.tmp 14), type := 39, pos := "law.go:95", after := #[{ on := 6, ground := Ground.guard }], guard := some (6, true) }) (v := .agg #[.int .u32 (ra : Int), .int .u8 (rn : Int), .int .i64 via, .int .u16 mt, .int .u16 sq]) rfl (by kernel_rfl) (by kernel_rfl) (by kernel_rfl) (fun _ _ _ h => h) (Or.inl ⟨by rfl, fun w hSw => by obtain ⟨y0, y1, y2, y3, y4⟩ := row5 ((hSw.block _ (Array.getElem?_eq_some_iff.1 RQ6.out).1).trans RQ6.out); go_simp⟩) (by assumption) ?_
            try simp only [Act.put, List.setIfInBounds_toArray, List.set_cons_zero, List.set_cons_succ]
            refine wpAnyH_take (i := 8) (oi := { dst := some 140, op := Op.move (Operand.tmp 6), type := 29, pos := "law.go:95", after := #[{ on := 6, ground := Ground.guard }], guard := some (6, true) }) (v := .slice (some ⟨gl, 0, none⟩) n8 c8') rfl (by kernel_rfl) (by kernel_rfl) (by kernel_rfl) (fun _ _ _ h => h) (Or.inl ⟨by rfl, fun w hSw => by go_simp⟩) (by assumption) ?_
            try simp only [Act.put, List.setIfInBounds_toArray, List.set_cons_zero, List.set_cons_succ]
            refine wpAnyH_take (i := 9) (oi := { dst := some 141, op := Op.move (Operand.tmp 16), type := 3, pos := "law.go:95", after := #[{ on := 6, ground := Ground.guard }], guard := some (6, true) }) (v := .int .i64 (j : Int)) rfl (by kernel_rfl) (by kernel_rfl) (by kernel_rfl) (fun _ _ _ h => h) (Or.inl ⟨by rfl, fun w hSw => by go_simp⟩) (by assumption) ?_
            try simp only [Act.put, List.setIfInBounds_toArray, List.set_cons_zero, List.set_cons_succ]
            refine wpAnyH_take (i := 10) (oi := { dst := some 142, op := Op.indexAddr 29 (Operand.tmp 140) (Operand.tmp 141), type := 0, pos := "law.go:95", after := #[{ on := 8, ground := Ground.data }, { on := 9, ground := Ground.data }, { on := 6, ground := Ground.guard }], guard := some (6, true) }) (v := .pointer (some ⟨gl, j * 5, none⟩)) rfl (by kernel_rfl) (by kernel_rfl) (by kernel_rfl) (fun _ _ _ h => h) (Or.inl ⟨by rfl, fun w hSw => by go_simp⟩) (by assumption) ?_
            try simp only [Act.put, List.setIfInBounds_toArray, List.set_cons_zero, List.set_cons_succ]
            refine wpAnyH_take (i := 11) (oi := { dst := some 143, op := Op.load 39 (Operand.tmp 142), type := 39, pos := "law.go:95", after := #[{ on := 10, ground := Ground.data }, { on := 6, ground := Ground.guard }], guard := some (6, true) }) (v := .agg #[.int .u32 (ra : Int), .int .u8 (rn : Int), .int .i64 via, .int .u16 mt, .int .u16 sq]) rfl (by kernel_rfl) (by kernel_rfl) (by kernel_rfl) (fun _ _ _ h => h) (Or.inl ⟨by rfl, fun w hSw => by obtain ⟨u0, u1, u2, u3, u4⟩ := HRT.out.keep (hSw.block gl HGL.out); go_simp⟩) (by assumption) ?_
            try simp only [Act.put, List.setIfInBounds_toArray, List.set_cons_zero, List.set_cons_succ]
            refine wpAnyH_take (i := 12) (oi := { dst := some 144, op := Op.binOp BinOp.neq 39 (Operand.tmp 139) (Operand.tmp 143) 39, type := 4, pos := "law.go:95", after := #[{ on := 7, ground := Ground.data }, { on := 11, ground := Ground.data }, { on := 6, ground := Ground.guard }], guard := some (6, true) }) (v := .bool false) rfl (by kernel_rfl) (by kernel_rfl) (by kernel_rfl) (fun _ _ _ h => h) (Or.inl ⟨by rfl, fun w hSw => by go_simp⟩) (by assumption) ?_
            try simp only [Act.put, List.setIfInBounds_toArray, List.set_cons_zero, List.set_cons_succ]
            refine wpAnyH_take (i := 13) (oi := { dst := some 145, op := Op.pick (Operand.tmp 138) (Operand.tmp 144) (Operand.const (Value.bool false)), type := 4, pos := "law.go:95", after := #[{ on := 6, ground := Ground.data }, { on := 12, ground := Ground.data }, { on := 4, ground := Ground.guard }], guard := some (4, false) }) (v := .bool false) rfl (by kernel_rfl) (by kernel_rfl) (by kernel_rfl) (fun _ _ _ h => h) (Or.inl ⟨by rfl, fun w hSw => by go_simp⟩) (by assumption) ?_
            try simp only [Act.put, List.setIfInBounds_toArray, List.set_cons_zero, List.set_cons_succ]
            refine wpAnyH_take (i := 14) (oi := { dst := some 146, op := Op.pick (Operand.tmp 136) (Operand.const (Value.bool true)) (Operand.tmp 145), type := 4, pos := "law.go:95", after := #[{ on := 4, ground := Ground.data }, { on := 13, ground := Ground.data }], guard := none }) (v := .bool false) rfl (by kernel_rfl) (by kernel_rfl) (by kernel_rfl) (fun _ _ _ h => h) (Or.inl ⟨by rfl, fun w hSw => by go_simp⟩) (by assumption) ?_
            try simp only [Act.put, List.setIfInBounds_toArray, List.set_cons_zero, List.set_cons_succ]
            refine wpAnyH_done (by kernel_rfl) ?_ _
            try unfold NoPanic
            go_upto_region 32 with (fail)
            have HU7 := Lib.hid (HU6.out.below hHeld)
            have HA7 := Lib.hid (HA6.out.below hHeld)
            have RN7 := Lib.hid ((hHeld.block _ (Array.getElem?_eq_some_iff.1 RN6.out).1).trans RN6.out)
            clear hHeld
            obtain ⟨A1', n1', c1', us, hv1, hn1, hn1k, hub, hus, hA1, hnc⟩ := HA7.out
            injection hv1 with e1 e2 e3
            subst e1 e2 e3
            have HUS := Lib.hid hus
            have HN1 := Lib.hid hn1
            have HUB := Lib.hid hub
            have HA1 := Lib.hid hA1
            have HN1K := Lib.hid hn1k
            clear hus hn1 hub hA1 hn1k hnc
            refine wp_region_noPanic ?_
            refine wp_region_held_drew (S := fun W : World => Below wd.heap.size wd W) (by kernel_rfl) ((Below.refl _ _).drew) (fun hHeld => ?_)
            generalize wd.drew = wf at *
            have HF := Lib.hid hHeld
            clear hHeld
            refine wpAnyH_take (i := 0) (oi := { dst := some 147, op := Op.move (Operand.tmp 1), type := 23, pos := "law.go:98", after := #[], guard := none }) (v := .slice A1 n1 c1) rfl (by kernel_rfl) (by kernel_rfl) (by kernel_rfl) (fun _ _ _ h => h) (Or.inl ⟨by rfl, fun w hSw => by go_simp⟩) (by assumption) ?_
            try simp only [Act.put, List.setIfInBounds_toArray, List.set_cons_zero, List.set_cons_succ]
            refine wpAnyH_take (i := 2) (oi := { dst := some 149, op := Op.fieldAddr 32 (Operand.tmp 13) 0, type := 0, pos := "law.go:98", after := #[], guard := none }) (v := .pointer (some ⟨g3, 0, none⟩)) rfl (by kernel_rfl) (by kernel_rfl) (by kernel_rfl) (fun _ _ _ h => h) (Or.inl ⟨by rfl, fun w hSw => by go_simp⟩) (by assumption) ?_
            try simp only [Act.put, List.setIfInBounds_toArray, List.set_cons_zero, List.set_cons_succ]
            refine wpAnyH_take (i := 3) (oi := { dst := some 150, op := Op.load 30 (Operand.tmp 149), type := 30, pos := "law.go:98", after := #[{ on := 2, ground := Ground.data }], guard := none }) (v := .int .u32 (X : Int)) rfl (by kernel_rfl) (by kernel_rfl) (by kernel_rfl) (fun _ _ _ h => h) (Or.inl ⟨by rfl, fun w hSw => by obtain ⟨y0, y1⟩ := row2 ((hSw.block _ (Array.getElem?_eq_some_iff.1 RN7.out).1).trans RN7.out); go_simp⟩) (by assumption) ?_
            try simp only [Act.put, List.setIfInBounds_toArray, List.set_cons_zero, List.set_cons_succ]
            refine wpAnyH_ready (rs := [1, 4]) (by kernel_rfl) (by simp) ?_
            refine (AllReadyH.cons (o := { dst := some 148, op := Op.call { callee := Callee.builtin Builtin.append, args := #[Operand.const (Value.slice none 0 0), Operand.tmp 147], argTypes := #[23, 23] }, type := 23, pos := "law.go:98", after := #[{ on := 0, ground := Ground.data }], guard := none }) rfl (fun K hK => ?_) (AllReadyH.cons (o := { dst := some 151, op := Op.buildSlice 23 1 #[(0, Operand.tmp 150)], type := 23, pos := "law.go:98", after := #[{ on := 3, ground := Ground.data }], guard := none }) rfl (fun K hK => ?_) AllReadyH.nil))
            · refine step_us rfl (.const (.slice none 0 0)) (.tmp 147) rfl wd.heap.size (.slice none 0 0) [] us A1 n1 c1 rfl rfl (UOwn.nil _ _) HN1.out HA1.out (HUS.out.below HF.out) (by simp; have := HN1.out; have := HN1K.out; omega) HF.out.size ?_
              intro v7 w7 O7 G7
              have B7 : Below wd.heap.size wd w7 := HF.out.grown G7 HF.out.size (fun k e => by simp [Value.ownBlock] at e)
              refine hK.out _ _ (B7) (fun hHeld => ?_)
              clear hK K
              try simp only [Act.put, List.setIfInBounds_toArray, List.set_cons_zero, List.set_cons_succ]
              have HB7 := Lib.hid B7
              have HO7 := Lib.hid O7
              clear B7 O7 G7 hHeld
              refine wpAnyH_ready (rs := [4]) (by kernel_rfl) (by simp) ?_
              refine AllReadyH.cons (o := { dst := some 151, op := Op.buildSlice 23 1 #[(0, Operand.tmp 150)], type := 23, pos := "law.go:98", after := #[{ on := 3, ground := Ground.data }], guard := none }) rfl (fun K hK => ?_) AllReadyH.nil
              go_simp
              refine hK.out _ _ (HB7.out.alloc HB7.out.size (.cells #[.int .u32 (X : Int)] 30)) (fun hHeld => ?_)
              clear hK K
              try simp only [Act.put, List.setIfInBounds_toArray, List.set_cons_zero, List.set_cons_succ]
              have HO8 := Lib.hid (HO7.out.kept ((Below.refl w7.heap.size w7).alloc (Nat.le_refl _) (.cells #[.int .u32 (X : Int)] 30)))
              have HB8 := Lib.hid (HB7.out.alloc HB7.out.size (.cells #[.int .u32 (X : Int)] 30))
              have hx := heap_alloc_new w7 (.cells #[.int .u32 (X : Int)] 30)
              generalize hq8 : w7.heap.size = q8 at *
              generalize World.alloc w7 _ = w8 at *
              have HX8 : Hid (US w8 (some ⟨q8, 0, none⟩) [X]) := Lib.hid fun k hk => by
                obtain rfl : k = 0 := by simpa using hk
                exact ⟨q8, 0, rfl, (Array.getElem?_eq_some_iff.1 hx).1, cell_of_row w8 q8 0 _ 30 (0, 0) hx⟩
              clear hx hq8 hHeld
              refine wpAnyH_ready (rs := [5]) (by kernel_rfl) (by simp) ?_
              refine AllReadyH.cons (o := { dst := some 152, op := Op.call { callee := Callee.builtin Builtin.append, args := #[Operand.tmp 148, Operand.tmp 151], argTypes := #[23, 23] }, type := 23, pos := "law.go:98", after := #[{ on := 1, ground := Ground.data }, { on := 4, ground := Ground.data }, { on := 1, ground := Ground.chain }], guard := none }) rfl (fun K hK => ?_) AllReadyH.nil
              refine step_us rfl (.tmp 148) (.tmp 151) rfl wd.heap.size v7 ([] ++ us) [X] (some ⟨q8, 0, none⟩) 1 1 rfl rfl HO8.out rfl (by simp) HX8.out (by simp; have := HN1.out; have := HN1K.out; omega) HB8.out.size ?_
              intro v9 we O9 G9
              have B9 : Below wd.heap.size wd we := HB8.out.grown G9 HB8.out.size (fun k e => (World.ownsRow.lt HO8.out k e).1)
              have HOE := Lib.hid O9
              have HBE := Lib.hid B9
              clear O9 G9
              refine hK.out _ _ (B9) (fun hHeld => ?_)
              clear hK K
              try simp only [Act.put, List.setIfInBounds_toArray, List.set_cons_zero, List.set_cons_succ]
              clear B9
              refine wpAnyH_take (i := 6) (oi := { dst := some 1, op := Op.assign (Operand.tmp 152), type := 23, pos := "law.go:98", after := #[{ on := 5, ground := Ground.data }, { on := 5, ground := Ground.chain }, { on := 0, ground := Ground.phase }, { on := 1, ground := Ground.phase }, { on := 2, ground := Ground.phase }, { on := 3, ground := Ground.phase }, { on := 4, ground := Ground.phase }, { on := 5, ground := Ground.phase }], guard := none }) (v := v9) rfl (by kernel_rfl) (by kernel_rfl) (by kernel_rfl) (fun _ _ _ h => h) (Or.inl ⟨by rfl, fun w hSw => by go_simp⟩) (by assumption) ?_
              try simp only [Act.put, List.setIfInBounds_toArray, List.set_cons_zero, List.set_cons_succ]
              refine wpAnyH_done (by kernel_rfl) ?_ _
              try unfold NoPanic
              have HU8 := Lib.hid (HU7.out.below HBE.out)
              have har : AR we v9 (30 + (k + 1)) := by
                obtain ⟨A, c, h1, h2, h3, h4⟩ := HOE.out.form
                exact ⟨A, _, c, _, h1, rfl, by simp; have := HN1.out; have := HN1K.out; omega, fun u hu => by rcases List.mem_append.1 hu with m | m; exact HUB.out u (by simpa using m); rw [List.mem_singleton.1 m]; exact HPO.out.1, h2, h3, h4⟩
              have HAR := Lib.hid har
              clear har hHeld
              go_wp2
              go_roundw
              case rel => exact ⟨k + 1, by omega, by go_num, Lib.hid ⟨HU8.out, HAR.out⟩⟩
              case measure => simp [intOf]; omega
            · go_simp
              refine hK.out _ _ (HF.out.alloc HF.out.size (.cells #[.int .u32 (X : Int)] 30)) (fun hHeld => ?_)
              clear hK K
              try simp only [Act.put, List.setIfInBounds_toArray, List.set_cons_zero, List.set_cons_succ]
              have HB8' := Lib.hid (HF.out.alloc HF.out.size (.cells #[.int .u32 (X : Int)] 30))
              have hx := heap_alloc_new wf (.cells #[.int .u32 (X : Int)] 30)
              generalize hq8 : wf.heap.size = q8 at *
              generalize World.alloc wf _ = w8' at *
              have HX8' : Hid (US w8' (some ⟨q8, 0, none⟩) [X]) := Lib.hid fun k hk => by
                obtain rfl : k = 0 := by simpa using hk
                exact ⟨q8, 0, rfl, (Array.getElem?_eq_some_iff.1 hx).1, cell_of_row w8' q8 0 _ 30 (0, 0) hx⟩
              clear hx hq8 hHeld
              refine wpAnyH_ready (rs := [1]) (by kernel_rfl) (by simp) ?_
              refine AllReadyH.cons (o := { dst := some 148, op := Op.call { callee := Callee.builtin Builtin.append, args := #[Operand.const (Value.slice none 0 0), Operand.tmp 147], argTypes := #[23, 23] }, type := 23, pos := "law.go:98", after := #[{ on := 0, ground := Ground.data }], guard := none }) rfl (fun K hK => ?_) AllReadyH.nil
              refine step_us rfl (.const (.slice none 0 0)) (.tmp 147) rfl wd.heap.size (.slice none 0 0) [] us A1 n1 c1 rfl rfl (UOwn.nil _ _) HN1.out HA1.out (HUS.out.below HB8'.out) (by simp; have := HN1.out; have := HN1K.out; omega) HB8'.out.size ?_
              intro v7 w8 O7 G7
              have B7 : Below wd.heap.size wd w8 := HB8'.out.grown G7 HB8'.out.size (fun k e => by simp [Value.ownBlock] at e)
              refine hK.out _ _ (B7) (fun hHeld => ?_)
              clear hK K
              try simp only [Act.put, List.setIfInBounds_toArray, List.set_cons_zero, List.set_cons_succ]
              have HB8 := Lib.hid B7
              have HO8 := Lib.hid O7
              have HX8 := Lib.hid (HX8'.out.below ((Below.refl w8'.heap.size w8').grown G7 (Nat.le_refl _) (fun k e => by simp [Value.ownBlock] at e)))
              clear B7 O7 G7 hHeld
              refine wpAnyH_ready (rs := [5]) (by kernel_rfl) (by simp) ?_
              refine AllReadyH.cons (o := { dst := some 152, op := Op.call { callee := Callee.builtin Builtin.append, args := #[Operand.tmp 148, Operand.tmp 151], argTypes := #[23, 23] }, type := 23, pos := "law.go:98", after := #[{ on := 1, ground := Ground.data }, { on := 4, ground := Ground.data }, { on := 1, ground := Ground.chain }], guard := none }) rfl (fun K hK => ?_) AllReadyH.nil
              refine step_us rfl (.tmp 148) (.tmp 151) rfl wd.heap.size v7 ([] ++ us) [X] (some ⟨q8, 0, none⟩) 1 1 rfl rfl HO8.out rfl (by simp) HX8.out (by simp; have := HN1.out; have := HN1K.out; omega) HB8.out.size ?_
              intro v9 we O9 G9
              have B9 : Below wd.heap.size wd we := HB8.out.grown G9 HB8.out.size (fun k e => (World.ownsRow.lt HO8.out k e).1)
              have HOE := Lib.hid O9
              have HBE := Lib.hid B9
              clear O9 G9
              refine hK.out _ _ (B9) (fun hHeld => ?_)
              clear hK K
              try simp only [Act.put, List.setIfInBounds_toArray, List.set_cons_zero, List.set_cons_succ]
              clear B9
              refine wpAnyH_take (i := 6) (oi := { dst := some 1, op := Op.assign (Operand.tmp 152), type := 23, pos := "law.go:98", after := #[{ on := 5, ground := Ground.data }, { on := 5, ground := Ground.chain }, { on := 0, ground := Ground.phase }, { on := 1, ground := Ground.phase }, { on := 2, ground := Ground.phase }, { on := 3, ground := Ground.phase }, { on := 4, ground := Ground.phase }, { on := 5, ground := Ground.phase }], guard := none }) (v := v9) rfl (by kernel_rfl) (by kernel_rfl) (by kernel_rfl) (fun _ _ _ h => h) (Or.inl ⟨by rfl, fun w hSw => by go_simp⟩) (by assumption) ?_
              try simp only [Act.put, List.setIfInBounds_toArray, List.set_cons_zero, List.set_cons_succ]
              refine wpAnyH_done (by kernel_rfl) ?_ _
              try unfold NoPanic
              have HU8 := Lib.hid (HU7.out.below HBE.out)
              have har : AR we v9 (30 + (k + 1)) := by
                obtain ⟨A, c, h1, h2, h3, h4⟩ := HOE.out.form
                exact ⟨A, _, c, _, h1, rfl, by simp; have := HN1.out; have := HN1K.out; omega, fun u hu => by rcases List.mem_append.1 hu with m | m; exact HUB.out u (by simpa using m); rw [List.mem_singleton.1 m]; exact HPO.out.1, h2, h3, h4⟩
              have HAR := Lib.hid har
              clear har hHeld
              go_wp2
              go_roundw
              case rel => exact ⟨k + 1, by omega, by go_num, Lib.hid ⟨HU8.out, HAR.out⟩⟩
              case measure => simp [intOf]; omega
        · obtain rfl : k = len0 := by omega
          go_wp2
          go_meet
          case rel => exact HR
    case rest =>
      obtain ⟨A1, n1, c1, us, hv1, hn1, hn1k, hub, hus, hA1, hnc⟩ := hcut.out.2
      subst hv1
      have HU2 : Hid (UA wz wc wz.heap.size (.slice A8 n8 c8') t ls bs ∧ US wc A1 us) := Lib.hid ⟨hcut.out.1, hus⟩
      have HN1 := Lib.hid hn1
      have HUB := Lib.hid hub
      have HOK := Lib.hid (show ∀ r ∈ ls, r.Ok from fun y hy => mem_ok HSM.out.wf ((HSM.out.eq y).2 hy))
      have hn90 : n1 ≤ 90 := by omega
      clear hcut HU hus hn1 hub hA1 hnc hn1k HS
      generalize wc = wg at *
      go_wp2
      go_loopw [17] (fun i wr => ∃ k : Nat, k ≤ n1 ∧ i = .int .i64 k ∧ Hid (UA wz wr wz.heap.size (.slice A8 n8 c8') t ls bs ∧ US wr A1 us)) (fun i _ => n1 - (intOf i).toNat)
      case atStart => exact ⟨0, by omega, rfl, HU2⟩
      case round =>
        obtain ⟨k, hk, rfl, HR⟩ := hrel
        clear HU2
        by_cases hlt : k < n1
        · have hkr : Hid (k < us.length) := Lib.hid (by rw [← HN1.out]; exact hlt)
          obtain ⟨b0, o0, ea, hb0, hc⟩ := HR.out.2 k hkr.out
          subst ea
          obtain ⟨b, hbb⟩ : ∃ b, b = us[k]'(hkr.out) := ⟨_, rfl⟩
          rw [← hbb] at hc
          have hb : b < 4294967296 := by rw [hbb]; exact HUB.out _ (List.getElem_mem _)
          have HC := Lib.hid hc
          have hk9 : (k : Int) < n1 := by omega
          have hk8 : ¬ n1 ≤ k := by omega
          clear hbb
          have c14 := Look_any HR.out.1.tr HSM.out.wf b hb
          obtain ⟨o, ho⟩ : ∃ o, o = t.look b none := ⟨_, rfl⟩
          rw [← ho] at c14
          have HO := Lib.hid ho
          obtain ⟨oa, on, ov, om, os, hof⟩ := ocl_form o
          rw [hof] at c14
          have HOF := Lib.hid hof
          clear ho hof
          go_upto_region 37 with (first
            | (go_at_call 14; (with_reducible refine c14.mono ?_); rintro e w2 ⟨rfl, B2⟩; clear c14))
          have RN := Lib.hid (heap_alloc_new w2 (.cells #[.int .u32 oa, .int .u8 on, .int .i64 ov, .int .u16 om, .int .u16 os] 39))
          have HB3 := Lib.hid (B2.trans ((Below.refl w2.heap.size w2).alloc (Nat.le_refl _) (.cells #[.int .u32 oa, .int .u8 on, .int .i64 ov, .int .u16 om, .int .u16 os] 39) |>.mono B2.size))
          clear B2 hc
          generalize hg3 : w2.heap.size = g3 at *
          generalize World.alloc w2 _ = w3 at *
          clear hg3
          have HU3 := Lib.hid (HR.out.1.below HB3.out)
          have HS3 := Lib.hid (HR.out.2.below HB3.out)
          have hc := (World.cell?_of_block (a := ⟨b0, o0 + k, none⟩) (HB3.out.block b0 hb0)).trans HC.out
          obtain ⟨_, _, hv4, S4⟩ := HU3.out.ow.form
          injection hv4 with e1 e2 e3
          subst e1 e3
          have c15 := longest_any w3 A8 n8 c8' ls HN8.out (by omega) S4 HOK.out b hb
          clear S4 e2
          go_upto_region 38 with (first
            | (go_at_call 15; (with_reducible refine c15.mono ?_); rintro e w4 ⟨o', rfl, hLL, B4⟩; clear c15; (obtain rfl : o' = o := (long_same HSM.out hLL).symm.trans HO.out.symm); rw [HOF.out]; have HB4 := Lib.hid B4; clear B4 hLL))
          have RN6 := Lib.hid (heap_alloc_new w4 (.cells #[.int .u32 oa, .int .u8 on, .int .i64 ov, .int .u16 om, .int .u16 os] 39))
          have HB5 := Lib.hid (HB4.out.trans ((Below.refl w4.heap.size w4).alloc (Nat.le_refl _) (.cells #[.int .u32 oa, .int .u8 on, .int .i64 ov, .int .u16 om, .int .u16 os] 39) |>.mono HB4.out.size))
          clear HB4 hc
          generalize hg5 : w4.heap.size = g5 at *
          generalize World.alloc w4 _ = w5 at *
          clear hg5
          have HU5 := Lib.hid (HU3.out.below HB5.out)
          have HS5 := Lib.hid (HS3.out.below HB5.out)
          have RN5 := Lib.hid ((HB5.out.block _ (Array.getElem?_eq_some_iff.1 RN.out).1).trans RN.out)
          obtain ⟨y0, y1, y2, y3, y4⟩ := row5 RN5.out
          obtain ⟨x0, x1, x2, x3, x4⟩ := row5 RN6.out
          generalize o'.isSome = oi at *
          go_wp2
          go_roundw
          case rel => exact ⟨k + 1, by omega, by go_num, Lib.hid ⟨HU5.out, HS5.out⟩⟩
          case measure => simp [intOf]; omega
        · obtain rfl : k = n1 := by omega
          go_wp2
          go_ret
          exact ⟨by first | rfl | exact ret_bool (by simp), HW.out.trans (HR.out.1.be.mono HW.out.size)⟩

set_option maxRecDepth 100000 in
theorem lifted (os : Os) (started : os.Started) (H : Type) (enc : TypeId × Value → H) :
    ReturnsInHanded {} Try.checked os 3 .any (Rows.triePlaysSpec.pre6 enc Try.prog Try.f3 Rows.triePlaysRow.domain false) (Rows.triePlaysSpec.post enc Try.prog Try.f3 false true false false) := by
  refine returnsInHanded_of_change (C := Try.checked) own started (by kernel_rfl) Try.func3
    (ChangeSpec.witness6 (enc := enc) (C := Try.checked) false ⟨#[], #[.slice none 0 0, .slice none 0 0], []⟩ 8 (by kernel_rfl) (by kernel_rfl) (by kernel_rfl) (by kernel_rfl)) ?_
  intro W base args ds gs before hval0 hW hcnd _
  have hval : ∀ (j : Nat) t v, Try.f3.params[j]? = some t → args[j]? = some v → Value.okWide Try.prog W .any base t v := hval0
  have hW' := hW
  obtain ⟨p, q, hA0, hV, rfl, hfz, hnd⟩ := hW
  have hA : DataW.TrodAll enc Try.prog W 0 (fun _ => true) true Try.f3.params.toList args.toList ds p := hA0
  rw [Try.params3] at hA hval
  obtain ⟨v0, vs0, d0, ds0, p0, q0, hargs, rfl, rfl, h0, r0⟩ := trodAll_cons hA
  obtain ⟨v1, vs1, d1, ds1, p1, q1, rfl, rfl, rfl, h1, r1⟩ := trodAll_cons r0
  obtain ⟨rfl, rfl, rfl⟩ := trodAll_nil r1
  obtain rfl : args = #[v0, v1] := by cases args; simp_all
  obtain ⟨rfl, rfl⟩ := trodVars_none hV
  obtain ⟨a0, len0, cap0, rfl⟩ := okWide_slice Try.underlying22 (hval 0 22 v0 rfl rfl)
  have k0 := h0
  have lt0 : ∀ x ∈ p0, x.block < W.heap.size := by obtain ⟨m, hm⟩ := k0; exact DataW.trod_lt m _ _ _ hm
  obtain ⟨z0, w0⟩ : ∃ zs, IsActs W a0 len0 cap0 zs := by
    obtain ⟨fuel, hf⟩ := h0
    obtain ⟨a, l, c, ds, hcs, hds⟩ := acts_of hf
    simp [Value.cells] at hcs
    obtain ⟨rfl, rfl, rfl⟩ := hcs
    exact ⟨ds, hds⟩
  obtain ⟨a1, len1, cap1, rfl⟩ := okWide_slice Try.underlying23 (hval 1 23 v1 rfl rfl)
  have k1 := h1
  have lt1 : ∀ x ∈ p1, x.block < W.heap.size := by obtain ⟨m, hm⟩ := k1; exact DataW.trod_lt m _ _ _ hm
  obtain ⟨z1, w1⟩ : ∃ zs, IsRow .u32 W a1 len1 cap1 zs := by
    obtain ⟨fuel, hf⟩ := h1
    rcases open_ints Try.underlying23 Try.underlying30 (by kernel_rfl) hf with ⟨hcs, _⟩ | ⟨x, l, c, zs, hcs, _, hl, hm, hz, _, hcell, hwz⟩
    · simp [Value.cells] at hcs
      obtain ⟨rfl, rfl, rfl⟩ := hcs
      exact ⟨[], .inl ⟨rfl, rfl, rfl, rfl⟩⟩
    · simp [Value.cells] at hcs
      obtain ⟨rfl, rfl, rfl⟩ := hcs
      exact ⟨zs, .inr ⟨_, rfl, hl, hm, by simpa using hz, hcell, hwz⟩⟩
  clear hA0 hval0
  refine (walk a0 len0 cap0 z0 a1 len1 cap1 z1 W w0 w1).mono fun e W' ⟨he, bel⟩ => ?_
  subst he
  exact ⟨_, rfl, _, _, _, [], _, [], hW', trodAll_mk1 (shut_bool Try.underlying4 _), (trodAll_cons_mk (Below.trod laidOut (by kernel_rfl) (of_decide_eq_true (by kernel_rfl)) k0 bel lt0) (trodAll_cons_mk (Below.trod laidOut (by kernel_rfl) (of_decide_eq_true (by kernel_rfl)) k1 bel lt1) trodAll_mk0)), rfl, bel.frame _, fun h => by cases h⟩

theorem over : Rows.triePlaysRow.holds Try.pinned (OpenSpec.ofChange Rows.triePlaysSpec) :=
  OpenClaim.holds_of_wide 3 Try.f3 rfl rfl rfl rfl rfl rfl rfl ⟨rfl, rfl, rfl, rfl, rfl⟩ rfl rfl rfl rfl rfl (by kernel_rfl) Try.func3 (by kernel_rfl)
    (of_decide_eq_true (by kernel_rfl)) (by unfold Func.isWrapper; first | (rw [if_pos (by decide +kernel)]; kernel_rfl) | (rw [if_neg (by decide +kernel)]; exact ⟨rfl, rfl⟩))
    (fun os started H enc _ => lifted os started H enc)

theorem proved : Rows.TriePlaysSaid := over
#print axioms proved
end Go.Proofs.Ytfhpcpanjonpeaa.triePlays
