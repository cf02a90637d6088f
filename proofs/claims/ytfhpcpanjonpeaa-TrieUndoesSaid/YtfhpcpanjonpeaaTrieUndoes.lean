/-
  'For every input the Go function milestonelaw09.TrieUndoes returns true, and each argument reads behind the call as it read before.'
  Conditions: none but the row's own (linux/amd64, sizes of what is read within the address space).
-/
import Derived.Test.YtfhpcpanjonpeaaRows
import Derived.WalkKit
import Derived.ProofKit
import Derived.OpenShut
import Derived.ShutString
import Derived.ChangeOld
import Derived.Below
import Derived.Lib.SmallJoins
import Derived.Lib.Hide
import Derived.Test.YtfhpcpanjonpeaaTh
import Derived.Test.YtfhpcpanjonpeaaTv
import Derived.Deep.DeepCutAuto
import Derived.Deep.CutBlock
namespace Go.Proofs.Ytfhpcpanjonpeaa.trieUndoes
open Tri
open Pre
open Go.ChangeShapes Go.WideShapes Go.ChangeAt Go.RowKit
open Go.ChangeMaps (open_string shut_string)
set_option linter.unusedVariables false

theorem own : ownKnob Try.prog.godebug = none := by kernel_rfl
theorem laidOut : laidOutB Try.prog = true := by kernel_rfl

set_option maxRecDepth 8000 in
set_option maxHeartbeats 8000000 in
theorem walk (a0 : Option Addr) (len0 cap0 : Nat) (z0 : List ActD) (a1 : Option Addr) (len1 cap1 : Nat) (z1 : List ActD) (a2 : Int) (w : World) (w0 : IsActs w a0 len0 cap0 z0) (w1 : IsActs w a1 len1 cap1 z1) (w2 : (Lit.int .u32 a2).wf = true) :
    Calls Try.prog 5 #[.slice a0 len0 cap0, .slice a1 len1 cap1, .int .u32 a2] w fun e w' => e = .returned (.bool true) ∧ Below w.heap.size w w' := by
  obtain ⟨hl1, hl2, hl3, HA, hnil⟩ := w0
  obtain ⟨m1, m2, m3, HM, mnil⟩ := w1
  unfold maxLen at hl3 m3
  have hb1 := bounds_u32 w2
  clear w2
  obtain ⟨b, rfl⟩ := Int.eq_ofNat_of_zero_le hb1.1
  have hb : b < 4294967296 := by omega
  clear hb1
  by_cases h2 : 30 < len0
  · have h2' : (30 : Int) < len0 := by omega
    clear hl1 HA m1 HM
    go_enter Try.func5, Try.ntmps5
    go_wp2_with fail
    refine (awake_any _).mono ?_
    rintro e w1 ⟨rfl, h1⟩
    go_wp2_with fail
    refine (awake_any _).mono ?_
    rintro e w2 ⟨rfl, h2⟩
    go_wp2_with fail
    go_ret
    exact ⟨rfl, h1.trans (h2.mono h1.size)⟩
  have h2' : ¬ (30 : Int) < len0 := by omega
  by_cases h3 : 30 < len1
  · have h2' : (30 : Int) < len1 := by omega
    clear hl1 HA m1 HM
    go_enter Try.func5, Try.ntmps5
    go_wp2_with fail
    refine (awake_any _).mono ?_
    rintro e w1 ⟨rfl, h1⟩
    go_wp2_with fail
    refine (awake_any _).mono ?_
    rintro e w2 ⟨rfl, h2⟩
    go_wp2_with fail
    go_ret
    exact ⟨rfl, h1.trans (h2.mono h1.size)⟩
  have h3' : ¬ (30 : Int) < len1 := by omega
  have hl30 : len0 ≤ 30 := by omega
  have hm30 : len1 ≤ 30 := by omega
  have HL := Lib.hid (And.intro hl1 m1)
  clear h2 h3 hl1 m1
  go_enter Try.func5, Try.ntmps5
  go_upto_region 3 with (first
    | (go_at_call 7; refine (awake_any _).mono ?_; rintro e wz ⟨rfl, B0⟩))
  have HS := Lib.hid (HA.below B0)
  have HS1 := Lib.hid (HM.below B0)
  have HW := Lib.hid B0
  have HU : Hid (∃ t ls bs, UA wz (wz.alloc (.cells #[.pointer none, .int .i64 0] 28)) wz.heap.size (.slice none 0 0) t ls bs ∧ Sm t ls ∧ ls.length ≤ 0) := Lib.hid ⟨.nil, [], [], ⟨(Below.refl _ _).alloc (Nat.le_refl _) _, TrAt.new wz, by simp, RtOwn.nil _ _, by simp [Value.ownBlock], trivial⟩, Sm.nil, Nat.le_refl _⟩
  clear HA HM B0
  go_upto_block 0 with (fail)
  generalize wz.alloc _ = wg at *
  go_cut [8] (fun v8 wx => Hid (∃ t ls bs, UA wz wx wz.heap.size v8 t ls bs ∧ Sm t ls ∧ ls.length ≤ len0))
  case first =>
    go_wp2
    go_loopw [8, 9] (fun v8 i wr => ∃ k : Nat, k ≤ len0 ∧ i = .int .i64 k ∧ Hid (∃ t ls bs, UA wz wr wz.heap.size v8 t ls bs ∧ Sm t ls ∧ ls.length ≤ k)) (fun _ i _ => len0 - (intOf i).toNat)
    case atStart => exact ⟨0, by omega, rfl, HU⟩
    case round =>
      obtain ⟨k, hk, rfl, HR⟩ := hrel
      clear HU
      by_cases hlt : k < len0
      · have hkz : Hid (k < z0.length) := Lib.hid (by rw [← HL.out.1]; exact hlt)
        obtain ⟨b0, o0, ea, hb0, hc⟩ := HS.out k hkz.out
        subst ea
        obtain ⟨t, ls, bs, hU, hSm, hll⟩ := HR.out
        replace hc := hc.keep (hU.be.block b0 hb0)
        obtain ⟨d, hd⟩ : ∃ d, d = z0[k]'(hkz.out) := ⟨_, rfl⟩
        rw [← hd] at hc
        have hrk := hc.ok
        have hpo := place_ok d hc.ok
        have c8 := fun W => place_any d hc.ok W
        obtain ⟨k0, k1, k2, k3, _⟩ := hc
        obtain ⟨X, hX⟩ : ∃ X, X = d.pa := ⟨_, rfl⟩
        obtain ⟨Y, hY⟩ : ∃ Y, Y = d.pk := ⟨_, rfl⟩
        rw [← hX, ← hY] at c8 hpo
        have HXY := Lib.hid (And.intro hX hY)
        have HPO := Lib.hid hpo
        clear hX hY hrk hpo
        obtain ⟨A8, c8', hv8, _⟩ := hU.ow.form
        obtain ⟨n8, hn8⟩ : ∃ n, n = ls.length := ⟨_, rfl⟩
        rw [← hn8] at hv8
        subst hv8
        have HN8 := Lib.hid hn8
        have HUA := Lib.hid (And.intro hU hSm)
        have hlen := same_len hSm.wf hSm.un hSm.eq
        have HLE := Lib.hid (show t.list.length < 1000000 by omega)
        have hn8k : n8 ≤ k := by omega
        clear hd hU hSm hll hn8 hlen
        go_upto_region 9 with (first
          | (go_at_call 8; (with_reducible refine (c8 _).mono ?_); rintro e w2 ⟨rfl, B2⟩; have HB2 := Lib.hid B2; clear B2 c8))
        have RN := Lib.hid (heap_alloc_new w2 (.cells #[.int .u32 (X : Int), .int .u8 (Y : Int), .int .i64 (k : Int), .int .u16 0, .int .u16 0] 39))
        have HB3 := Lib.hid (HB2.out.trans ((Below.refl w2.heap.size w2).alloc (Nat.le_refl _) (.cells #[.int .u32 (X : Int), .int .u8 (Y : Int), .int .i64 (k : Int), .int .u16 0, .int .u16 0] 39) |>.mono HB2.out.size))
        have HGB := Lib.hid (show w2.heap.size ∉ wz.heap.size :: bs from fun e => by have h5 := HUA.out.1.tr.ins _ e; have h6 := HB2.out.size; omega)
        clear HB2
        generalize hg3 : w2.heap.size = g3 at *
        generalize World.alloc w2 _ = w3 at *
        clear hg3
        have HU3 := Lib.hid (HUA.out.1.below HB3.out)
        have c10 := Put_any HU3.out.tr HUA.out.2.wf ⟨X, Y, (k : Int), 0, 0⟩ HPO.out HLE.out
        unfold R.cl at c10
        dsimp only at c10
        obtain ⟨y0, y1, y2, y3, y4⟩ := row5 RN.out
        go_upto_region 10 with (first
          | (go_at_call 10; (with_reducible refine c10.mono ?_); rintro e w4 ⟨rfl, bs', T4, fr4, G4⟩; clear c10))
        have RN4 := Lib.hid ((G4.block _ (Array.getElem?_eq_some_iff.1 RN.out).1 HGB.out).trans RN.out)
        have HU4 := Lib.hid (HU3.out.put T4 fr4 G4)
        clear T4 fr4 G4 y0 y1 y2 y3 y4 RN
        obtain ⟨_, _, hv4, S4⟩ := HU4.out.ow.form
        injection hv4 with e1 e2 e3
        subst e1 e3
        have c9 := find_any w4 A8 n8 c8' ls HN8.out (by omega) S4 X Y
        obtain ⟨y0, y1, y2, y3, y4⟩ := row5 RN4.out
        clear S4 e2
        rcases findI_spec ls X Y with ⟨hfi, hno⟩ | ⟨j, hj, hfi, hja, hjn⟩
        · rw [hfi] at c9
          have HNO := Lib.hid hno
          clear hfi hno
          have hwap : ls.length ≤ 100000 := by rw [← HN8.out]; omega
          have HWAP := Lib.hid hwap
          clear hwap
          go_wp2_with (first
            | (go_at_call 9; (with_reducible refine c9.mono ?_); rintro e w5 ⟨rfl, B5⟩; clear c9 y0 y1 y2 y3 y4; have HB5 := Lib.hid B5; clear B5; obtain ⟨y0, y1, y2, y3, y4⟩ := row5 ((HB5.out.block _ (Array.getElem?_eq_some_iff.1 RN4.out).1).trans RN4.out))
            | (at_builtin; (with_reducible refine app_rt2 rfl (.tmp 61) (.tmp 63) rfl wz.heap.size (.slice A8 n8 c8') ls ⟨X, Y, (k : Int), 0, 0⟩ w5.heap.size rfl rfl (((HU4.out.below HB5.out).below ((Below.refl _ _).alloc (Nat.le_refl _) _)).ow) (heap_alloc_new w5 _) HWAP.out (by have h5 := HU4.out.be.size; have h6 := HB5.out.size; simp; omega) ?_)))
          intro v6 w6 O6 G6 hat6
          have HU6 := Lib.hid (((HU4.out.below HB5.out).below ((Below.refl w5.heap.size w5).alloc (Nat.le_refl _) (.cells #[.int .u32 (X : Int), .int .u8 (Y : Int), .int .i64 (k : Int), .int .u16 0, .int .u16 0] 39))).app O6 G6 (by simpa using hat6))
          clear O6 G6 hat6
          go_wp2
          go_roundw
          case rel => exact ⟨k + 1, by omega, by go_num, Lib.hid ⟨_, _, _, HU6.out, HUA.out.2.app HPO.out HNO.out, by simp; have := HN8.out; omega⟩⟩
          case measure => simp [intOf]; omega
        · rw [hfi] at c9
          have hjl : Hid (j < ls.length) := Lib.hid hj
          have HJ : Hid ((ls[j]'(hjl.out)).a = X ∧ (ls[j]'(hjl.out)).n = Y) := Lib.hid ⟨hja, hjn⟩
          clear hfi hja hjn
          obtain ⟨gl, cap, hv, hrt, hfz⟩ := HU4.out.ow.open hjl.out
          injection hv with e1 e2 e3
          subst e1 e3
          have hj9 : (j : Int) < n8 := by have := HN8.out; omega
          have hj8 : ¬ n8 ≤ j := by have := HN8.out; omega
          have hj7 : (0 : Int) ≤ j := by omega
          clear e2 hj
          obtain ⟨u0, u1, u2, u3, u4⟩ := hrt
          go_upto_region 7 with (first
            | (go_at_call 9; (with_reducible refine c9.mono ?_); rintro e w5 ⟨rfl, B5⟩; clear c9 y0 y1 y2 y3 y4 u0 u1 u2 u3 u4 hfz; have HB5 := Lib.hid B5; clear B5; obtain ⟨y0, y1, y2, y3, y4⟩ := row5 ((HB5.out.block _ (Array.getElem?_eq_some_iff.1 RN4.out).1).trans RN4.out); obtain ⟨_, _, hv, ⟨u0, u1, u2, u3, u4⟩, hfz⟩ := (HU4.out.below HB5.out).ow.open hjl.out; injection hv with e1 e2 e3; injection e1 with e1; injection e1 with e1; subst e1; clear e2 e3))
          have HU6 := Lib.hid ((HU4.out.below HB5.out).put1 hjl.out ⟨X, Y, (k : Int), 0, 0⟩)
          clear u0 u1 u2 u3 u4 hfz
          go_wp2
          go_roundw
          case rel => exact ⟨k + 1, by omega, by go_num, Lib.hid ⟨_, _, _, HU6.out, HUA.out.2.set HPO.out hjl.out HJ.out, by simp; have := HN8.out; omega⟩⟩
          case measure => simp [intOf]; omega
      · obtain rfl : k = len0 := by omega
        go_wp2
        go_meet
        case rel => exact HR
  case rest =>
    obtain ⟨t, ls, bs, hU, hSm, hll⟩ := hcut.out
    obtain ⟨A8, c8', hv8, _⟩ := hU.ow.form
    obtain ⟨n8, hn8⟩ : ∃ n, n = ls.length := ⟨_, rfl⟩
    rw [← hn8] at hv8
    subst hv8
    have HN8 := Lib.hid hn8
    have hlen := same_len hSm.wf hSm.un hSm.eq
    have hn30 : n8 ≤ 30 := by omega
    have HUN := Lib.hid (And.intro hSm.un fun y hy => mem_ok hSm.wf ((hSm.eq y).2 hy))
    have HU : Hid (∃ t bs, UA wz wc wz.heap.size (.slice A8 n8 c8') t ls bs ∧ Mo t ls (fun a n => ∃ i, i < 0 ∧ At4 z1 i a n) ∧ t.list.length ≤ 30 + 0) := Lib.hid ⟨t, bs, hU, ⟨hSm.wf, fun y hy => (hSm.eq y).2 hy, fun y hy => .inl ((hSm.eq y).1 hy)⟩, by omega⟩
    clear hcut hU hSm hll hn8 hlen HS
    generalize wc = wg at *
    go_upto_block 2 with (fail)
    go_cut [] (fun wx => Hid (∃ t bs, UA wz wx wz.heap.size (.slice A8 n8 c8') t ls bs ∧ Mo t ls (fun a n => ∃ i, i < len1 ∧ At4 z1 i a n) ∧ t.list.length ≤ 30 + len1))
    case first =>
      go_wp2
      go_loopw [12] (fun i wr => ∃ k : Nat, k ≤ len1 ∧ i = .int .i64 k ∧ Hid (∃ t bs, UA wz wr wz.heap.size (.slice A8 n8 c8') t ls bs ∧ Mo t ls (fun a n => ∃ i, i < k ∧ At4 z1 i a n) ∧ t.list.length ≤ 30 + k)) (fun i _ => len1 - (intOf i).toNat)
      case atStart => exact ⟨0, by omega, rfl, HU⟩
      case round =>
        obtain ⟨k, hk, rfl, HR⟩ := hrel
        clear HU
        by_cases hlt : k < len1
        · have hkz : Hid (k < z1.length) := Lib.hid (by rw [← HL.out.2]; exact hlt)
          obtain ⟨b0, o0, ea, hb0, hc⟩ := HS1.out k hkz.out
          subst ea
          obtain ⟨t, bs, hU, hMo, hll⟩ := HR.out
          replace hc := hc.keep (hU.be.block b0 hb0)
          obtain ⟨d, hd⟩ : ∃ d, d = z1[k]'(hkz.out) := ⟨_, rfl⟩
          rw [← hd] at hc
          have hrk := hc.ok
          have hpo := place_ok d hc.ok
          have c8 := fun W => place_any d hc.ok W
          obtain ⟨k0, k1, k2, k3, _⟩ := hc
          obtain ⟨X, hX⟩ : ∃ X, X = d.pa := ⟨_, rfl⟩
          obtain ⟨Y, hY⟩ : ∃ Y, Y = d.pk := ⟨_, rfl⟩
          rw [← hX, ← hY] at c8 hpo
          have HXY := Lib.hid (And.intro hX hY)
          have HPO := Lib.hid hpo
          clear hX hY hrk hpo
          have HAT : Hid (At4 z1 k X Y) := Lib.hid (by unfold At4; rw [getD4 hkz.out, ← hd]; exact HXY.out)
          have HUA := Lib.hid (And.intro hU (And.intro hMo hll))
          clear hd hU hMo hll
          go_upto_region 18 with (first
            | (go_at_call 8; (with_reducible refine (c8 _).mono ?_); rintro e w2 ⟨rfl, B2⟩; have HB2 := Lib.hid B2; clear B2 c8))
          have RN := Lib.hid (heap_alloc_new w2 (.cells #[.int .u32 (X : Int), .int .u8 (Y : Int)] 32))
          have HB3 := Lib.hid (HB2.out.trans ((Below.refl w2.heap.size w2).alloc (Nat.le_refl _) (.cells #[.int .u32 (X : Int), .int .u8 (Y : Int)] 32) |>.mono HB2.out.size))
          clear HB2
          generalize hg3 : w2.heap.size = g3 at *
          generalize World.alloc w2 _ = w3 at *
          clear hg3
          have HU3 := Lib.hid (HUA.out.1.below HB3.out)
          obtain ⟨y0, y1⟩ := row2 RN.out
          obtain ⟨_, _, hv4, S4⟩ := HU3.out.ow.form
          injection hv4 with e1 e2 e3
          subst e1 e3
          have c9 := find_any w3 A8 n8 c8' ls HN8.out (by omega) S4 X Y
          clear S4 e2
          rcases findI_spec ls X Y with ⟨hfi, hno⟩ | ⟨j, hj, hfi, hja, hjn⟩
          · rw [hfi] at c9
            have HNO := Lib.hid hno
            clear hfi hno
            go_wp2_with (first
              | (go_at_call 9; (with_reducible refine c9.mono ?_); rintro e w5 ⟨rfl, B5⟩; clear c9 y0 y1; have HU5 := Lib.hid (HU3.out.below B5); have RN5 := Lib.hid ((B5.block _ (Array.getElem?_eq_some_iff.1 RN.out).1).trans RN.out); clear B5; obtain ⟨y0, y1⟩ := row2 RN5.out; have c10 := Put_any HU5.out.tr HUA.out.2.1.wf ⟨X, Y, 0, 0, 0⟩ HPO.out (by have := HUA.out.2.2; omega); unfold R.cl at c10; dsimp only at c10)
              | (go_at_call 10; (with_reducible refine c10.mono ?_); rintro e w6 ⟨rfl, bs', T6, fr6, G6⟩; clear c10; have HU6 := Lib.hid (HU5.out.put T6 fr6 G6); clear T6 fr6 G6))
            go_roundw
            case rel => exact ⟨k + 1, by omega, by go_num, Lib.hid ⟨_, _, HU6.out, HUA.out.2.1.put HPO.out HNO.out ⟨k, by omega, HAT.out⟩ (fun a n ⟨i, hi, h⟩ => ⟨i, by omega, h⟩), by rw [put_len]; have := HUA.out.2.2; split <;> omega⟩⟩
            case measure => simp [intOf]; omega
          · rw [hfi] at c9
            have hj7 : ¬ (j : Int) < 0 := by omega
            clear hfi hja hjn hj
            go_wp2_with (first
              | (go_at_call 9; (with_reducible refine c9.mono ?_); rintro e w5 ⟨rfl, B5⟩; clear c9 y0 y1; have HU5 := Lib.hid (HU3.out.below B5); clear B5))
            go_roundw
            case rel => exact ⟨k + 1, by omega, by go_num, Lib.hid ⟨_, _, HU5.out, HUA.out.2.1.imp (fun a n ⟨i, hi, h⟩ => ⟨i, by omega, h⟩), by have := HUA.out.2.2; omega⟩⟩
            case measure => simp [intOf]; omega
        · obtain rfl : k = len1 := by omega
          go_wp2
          go_meet
          case rel => exact HR
    case rest =>
      have HU2 : Hid (∃ t bs, UA wz wc wz.heap.size (.slice A8 n8 c8') t ls bs ∧ Mo t ls (fun a n => ∃ i, 0 ≤ i ∧ i < len1 ∧ At4 z1 i a n) ∧ t.list.length ≤ 60) := by
        obtain ⟨t, bs, h1, h2, h3⟩ := hcut.out
        exact Lib.hid ⟨t, bs, h1, h2.imp fun a n ⟨i, hi, h⟩ => ⟨i, by omega, hi, h⟩, by omega⟩
      clear hcut HU
      generalize wc = wg at *
      go_upto_block 4 with (fail)
      go_cut [] (fun wx => Hid (∃ t bs, UA wz wx wz.heap.size (.slice A8 n8 c8') t ls bs ∧ Mo t ls (fun a n => ∃ i, len1 ≤ i ∧ i < len1 ∧ At4 z1 i a n) ∧ t.list.length ≤ 60))
      case first =>
        go_wp2
        go_loopw [14] (fun i wr => ∃ k : Nat, k ≤ len1 ∧ i = .int .i64 k ∧ Hid (∃ t bs, UA wz wr wz.heap.size (.slice A8 n8 c8') t ls bs ∧ Mo t ls (fun a n => ∃ i, k ≤ i ∧ i < len1 ∧ At4 z1 i a n) ∧ t.list.length ≤ 60)) (fun i _ => len1 - (intOf i).toNat)
        case atStart => exact ⟨0, by omega, rfl, HU2⟩
        case round =>
          obtain ⟨k, hk, rfl, HR⟩ := hrel
          clear HU2
          by_cases hlt : k < len1
          · have hkz : Hid (k < z1.length) := Lib.hid (by rw [← HL.out.2]; exact hlt)
            obtain ⟨b0, o0, ea, hb0, hc⟩ := HS1.out k hkz.out
            subst ea
            obtain ⟨t, bs, hU, hMo, hll⟩ := HR.out
            replace hc := hc.keep (hU.be.block b0 hb0)
            obtain ⟨d, hd⟩ : ∃ d, d = z1[k]'(hkz.out) := ⟨_, rfl⟩
            rw [← hd] at hc
            have hrk := hc.ok
            have hpo := place_ok d hc.ok
            have c8 := fun W => place_any d hc.ok W
            obtain ⟨k0, k1, k2, k3, _⟩ := hc
            obtain ⟨X, hX⟩ : ∃ X, X = d.pa := ⟨_, rfl⟩
            obtain ⟨Y, hY⟩ : ∃ Y, Y = d.pk := ⟨_, rfl⟩
            rw [← hX, ← hY] at c8 hpo
            have HXY := Lib.hid (And.intro hX hY)
            have HPO := Lib.hid hpo
            clear hX hY hrk hpo
            have HAT : Hid (∀ i, i = k → ∀ a n, At4 z1 i a n → a = X ∧ n = Y) := Lib.hid (by rintro i rfl a n h; unfold At4 at h; rw [getD4 hkz.out, ← hd] at h; rw [HXY.out.1, HXY.out.2]; exact h)
            have HUA := Lib.hid (And.intro hU (And.intro hMo hll))
            clear hd hU hMo hll
            go_upto_region 24 with (first
              | (go_at_call 8; (with_reducible refine (c8 _).mono ?_); rintro e w2 ⟨rfl, B2⟩; have HB2 := Lib.hid B2; clear B2 c8))
            have RN := Lib.hid (heap_alloc_new w2 (.cells #[.int .u32 (X : Int), .int .u8 (Y : Int)] 32))
            have HB3 := Lib.hid (HB2.out.trans ((Below.refl w2.heap.size w2).alloc (Nat.le_refl _) (.cells #[.int .u32 (X : Int), .int .u8 (Y : Int)] 32) |>.mono HB2.out.size))
            clear HB2
            generalize hg3 : w2.heap.size = g3 at *
            generalize World.alloc w2 _ = w3 at *
            clear hg3
            have HU3 := Lib.hid (HUA.out.1.below HB3.out)
            obtain ⟨y0, y1⟩ := row2 RN.out
            obtain ⟨_, _, hv4, S4⟩ := HU3.out.ow.form
            injection hv4 with e1 e2 e3
            subst e1 e3
            have c9 := find_any w3 A8 n8 c8' ls HN8.out (by omega) S4 X Y
            clear S4 e2
            have HQ := Lib.hid (show ∀ a n, (∃ i, k ≤ i ∧ i < len1 ∧ At4 z1 i a n) → ¬(a = X ∧ n = Y) → ∃ i, k + 1 ≤ i ∧ i < len1 ∧ At4 z1 i a n from fun a n ⟨i, h1, h2, h3⟩ hne => by
              by_cases hik : i = k
              · exact absurd (HAT.out i hik a n h3) hne
              · exact ⟨i, by omega, h2, h3⟩)
            rcases findI_spec ls X Y with ⟨hfi, hno⟩ | ⟨j, hj, hfi, hja, hjn⟩
            · rw [hfi] at c9
              have HNO := Lib.hid hno
              clear hfi hno
              cases hwas : (t.drop X Y).2
              · have HWAS := Lib.hid hwas
                clear hwas
                go_wp2_with (first
                  | (go_at_call 9; (with_reducible refine c9.mono ?_); rintro e w5 ⟨rfl, B5⟩; clear c9 y0 y1; have HU5 := Lib.hid (HU3.out.below B5); have RN5 := Lib.hid ((B5.block _ (Array.getElem?_eq_some_iff.1 RN.out).1).trans RN.out); clear B5; obtain ⟨y0, y1⟩ := row2 RN5.out; have c11 := Drop_not HU5.out.tr HUA.out.2.1.wf HU5.out.ti X Y HPO.out.1 HWAS.out)
                  | (go_at_call 11; (with_reducible refine c11.mono ?_); rintro e w6 ⟨rfl, T6, G6⟩; clear c11; have HU6 := Lib.hid (HU5.out.not T6 G6); clear T6 G6))
                go_roundw
                case rel => exact ⟨k + 1, by omega, by go_num, Lib.hid ⟨_, _, HU6.out, by have h := HUA.out.2.1.drop X Y HNO.out HQ.out; rwa [drop_same t X Y HU5.out.ti HWAS.out] at h, HUA.out.2.2⟩⟩
                case measure => simp [intOf]; omega
              · have HWAS := Lib.hid hwas
                have hdl := drop_len t X Y hwas
                have HDL := Lib.hid hdl
                clear hwas hdl
                go_wp2_with (first
                  | (go_at_call 9; (with_reducible refine c9.mono ?_); rintro e w5 ⟨rfl, B5⟩; clear c9 y0 y1; have HU5 := Lib.hid (HU3.out.below B5); have RN5 := Lib.hid ((B5.block _ (Array.getElem?_eq_some_iff.1 RN.out).1).trans RN.out); clear B5; obtain ⟨y0, y1⟩ := row2 RN5.out; have c11 := Drop_there HU5.out.tr HUA.out.2.1.wf X Y HPO.out.1 HWAS.out (by have := HDL.out; have := HUA.out.2.2; omega))
                  | (go_at_call 11; (with_reducible refine c11.mono ?_); rintro e w6 ⟨rfl, bs', T6, fr6, G6⟩; clear c11; have HU6 := Lib.hid (HU5.out.drop HWAS.out T6 fr6 G6); clear T6 fr6 G6))
                go_roundw
                case rel => exact ⟨k + 1, by omega, by go_num, Lib.hid ⟨_, _, HU6.out, HUA.out.2.1.drop X Y HNO.out HQ.out, by have := HDL.out; have := HUA.out.2.2; omega⟩⟩
                case measure => simp [intOf]; omega
            · rw [hfi] at c9
              have hj7 : ¬ (j : Int) < 0 := by omega
              have HSK := Lib.hid (HUA.out.2.1.skip (List.getElem_mem hj) (fun a n h hne => HQ.out a n h (fun e => hne ⟨e.1.trans hja.symm, e.2.trans hjn.symm⟩)))
              clear hfi hja hjn hj
              go_wp2_with (first
                | (go_at_call 9; (with_reducible refine c9.mono ?_); rintro e w5 ⟨rfl, B5⟩; clear c9 y0 y1; have HU5 := Lib.hid (HU3.out.below B5); clear B5))
              go_roundw
              case rel => exact ⟨k + 1, by omega, by go_num, Lib.hid ⟨_, _, HU5.out, HSK.out, HUA.out.2.2⟩⟩
              case measure => simp [intOf]; omega
          · obtain rfl : k = len1 := by omega
            go_wp2
            go_meet
            case rel => exact HR
      case rest =>
        obtain ⟨t, bs, hU, hMo, hll⟩ := hcut.out
        have hSm : Sm t ls := ⟨hMo.wf, fun y => ⟨fun h => by rcases hMo.mo y h with m | ⟨i, h1, h2, _⟩; exact m; omega, hMo.all y⟩, HUN.out.1⟩
        have hlen := same_len hSm.wf hSm.un hSm.eq
        have HUA := Lib.hid (And.intro hU hSm)
        have HLE := Lib.hid hlen
        clear hcut HU2 hMo hll hlen hU
        generalize wc = wg at *
        have c14 := Look_any HUA.out.1.tr hSm.wf b hb
        have HSM := Lib.hid hSm
        clear hSm
        obtain ⟨o, ho⟩ : ∃ o, o = t.look b none := ⟨_, rfl⟩
        rw [← ho] at c14
        have HO := Lib.hid ho
        obtain ⟨oa, on, ov, om, os, hof⟩ := ocl_form o
        rw [hof] at c14
        have HOF := Lib.hid hof
        clear ho hof
        go_upto_region 27 with (first
          | (go_at_call 14; (with_reducible refine c14.mono ?_); rintro e w2 ⟨rfl, B2⟩; clear c14))
        have RN := Lib.hid (heap_alloc_new w2 (.cells #[.int .u32 oa, .int .u8 on, .int .i64 ov, .int .u16 om, .int .u16 os] 39))
        have HB3 := Lib.hid (B2.trans ((Below.refl w2.heap.size w2).alloc (Nat.le_refl _) (.cells #[.int .u32 oa, .int .u8 on, .int .i64 ov, .int .u16 om, .int .u16 os] 39) |>.mono B2.size))
        clear B2
        generalize hg3 : w2.heap.size = g3 at *
        generalize World.alloc w2 _ = w3 at *
        clear hg3
        have HU3 := Lib.hid (HUA.out.1.below HB3.out)
        obtain ⟨_, _, hv4, S4⟩ := HU3.out.ow.form
        injection hv4 with e1 e2 e3
        subst e1 e3
        have c15 := longest_any w3 A8 n8 c8' ls HN8.out (by omega) S4 HUN.out.2 b hb
        clear S4 e2
        go_upto_region 28 with (first
          | (go_at_call 15; (with_reducible refine c15.mono ?_); rintro e w4 ⟨o', rfl, hLL, B4⟩; clear c15; (obtain rfl : o' = o := (long_same HSM.out hLL).symm.trans HO.out.symm); rw [HOF.out]; have HB4 := Lib.hid B4; clear B4 hLL))
        have RN6 := Lib.hid (heap_alloc_new w4 (.cells #[.int .u32 oa, .int .u8 on, .int .i64 ov, .int .u16 om, .int .u16 os] 39))
        have HB5 := Lib.hid (HB4.out.trans ((Below.refl w4.heap.size w4).alloc (Nat.le_refl _) (.cells #[.int .u32 oa, .int .u8 on, .int .i64 ov, .int .u16 om, .int .u16 os] 39) |>.mono HB4.out.size))
        clear HB4
        generalize hg5 : w4.heap.size = g5 at *
        generalize World.alloc w4 _ = w5 at *
        clear hg5
        have HU5 := Lib.hid (HU3.out.below HB5.out)
        have RN5 := Lib.hid ((HB5.out.block _ (Array.getElem?_eq_some_iff.1 RN.out).1).trans RN.out)
        have c12 := len_any HU5.out.tr
        rw [HLE.out, ← HN8.out] at c12
        obtain ⟨y0, y1, y2, y3, y4⟩ := row5 RN5.out
        obtain ⟨x0, x1, x2, x3, x4⟩ := row5 RN6.out
        generalize o'.isSome = oi at *
        go_wp2_with (first
          | (go_at_call 12; (with_reducible refine c12.mono ?_); rintro e w7 ⟨rfl, hw7⟩; rw [← hw7]; clear hw7 w7 c12))
        go_ret
        exact ⟨by first | rfl | exact ret_bool (by simp), HW.out.trans (HU5.out.be.mono HW.out.size)⟩

set_option maxRecDepth 100000 in
theorem lifted (os : Os) (started : os.Started) (H : Type) (enc : TypeId × Value → H) :
    ReturnsInHanded {} Try.checked os 5 .any (Rows.trieUndoesSpec.pre6 enc Try.prog Try.f5 Rows.trieUndoesRow.domain false) (Rows.trieUndoesSpec.post enc Try.prog Try.f5 false true false false) := by
  refine returnsInHanded_of_change (C := Try.checked) own started (by kernel_rfl) Try.func5
    (ChangeSpec.witness6 (enc := enc) (C := Try.checked) false ⟨#[], #[.slice none 0 0, .slice none 0 0, .int .u32 0], []⟩ 8 (by kernel_rfl) (by kernel_rfl) (by kernel_rfl) (by kernel_rfl)) ?_
  intro W base args ds gs before hval0 hW hcnd _
  have hval : ∀ (j : Nat) t v, Try.f5.params[j]? = some t → args[j]? = some v → Value.okWide Try.prog W .any base t v := hval0
  have hW' := hW
  obtain ⟨p, q, hA0, hV, rfl, hfz, hnd⟩ := hW
  have hA : DataW.TrodAll enc Try.prog W 0 (fun _ => true) true Try.f5.params.toList args.toList ds p := hA0
  rw [Try.params5] at hA hval
  obtain ⟨v0, vs0, d0, ds0, p0, q0, hargs, rfl, rfl, h0, r0⟩ := trodAll_cons hA
  obtain ⟨v1, vs1, d1, ds1, p1, q1, rfl, rfl, rfl, h1, r1⟩ := trodAll_cons r0
  obtain ⟨v2, vs2, d2, ds2, p2, q2, rfl, rfl, rfl, h2, r2⟩ := trodAll_cons r1
  obtain ⟨rfl, rfl, rfl⟩ := trodAll_nil r2
  obtain rfl : args = #[v0, v1, v2] := by cases args; simp_all
  obtain ⟨rfl, rfl⟩ := trodVars_none hV
  obtain ⟨a0, len0, cap0, rfl⟩ := okWide_slice Try.underlying22 (hval 0 22 v0 rfl rfl)
  have k0 := h0
  have lt0 : ∀ x ∈ p0, x.block < W.heap.size := by obtain ⟨m, hm⟩ := k0; exact DataW.trod_lt m _ _ _ hm
  obtain ⟨z0, w0⟩ : ∃ zs, IsActs W a0 len0 cap0 zs := by
    obtain ⟨fuel, hf⟩ := h0
    obtain ⟨a, l, c, ds, hcs, hds⟩ := acts_of hf
    simp [Value.cells] at hcs
    obtain ⟨rfl, rfl, rfl⟩ := hcs
    exact ⟨ds, hds⟩
  obtain ⟨a1, len1, cap1, rfl⟩ := okWide_slice Try.underlying22 (hval 1 22 v1 rfl rfl)
  have k1 := h1
  have lt1 : ∀ x ∈ p1, x.block < W.heap.size := by obtain ⟨m, hm⟩ := k1; exact DataW.trod_lt m _ _ _ hm
  obtain ⟨z1, w1⟩ : ∃ zs, IsActs W a1 len1 cap1 zs := by
    obtain ⟨fuel, hf⟩ := h1
    obtain ⟨a, l, c, ds, hcs, hds⟩ := acts_of hf
    simp [Value.cells] at hcs
    obtain ⟨rfl, rfl, rfl⟩ := hcs
    exact ⟨ds, hds⟩
  obtain ⟨a2, rfl, rfl, rfl, w2⟩ := open_int Try.underlying30 (hval 2 30 v2 rfl rfl) h2
  clear hA0 hval0
  refine (walk a0 len0 cap0 z0 a1 len1 cap1 z1 a2 W w0 w1 w2).mono fun e W' ⟨he, bel⟩ => ?_
  subst he
  exact ⟨_, rfl, _, _, _, [], _, [], hW', trodAll_mk1 (shut_bool Try.underlying4 _), (trodAll_cons_mk (Below.trod laidOut (by kernel_rfl) (of_decide_eq_true (by kernel_rfl)) k0 bel lt0) (trodAll_cons_mk (Below.trod laidOut (by kernel_rfl) (of_decide_eq_true (by kernel_rfl)) k1 bel lt1) (trodAll_cons_mk (shut_int Try.underlying30 w2) trodAll_mk0))), rfl, bel.frame _, fun h => by cases h⟩

theorem over : Rows.trieUndoesRow.holds Try.pinned (OpenSpec.ofChange Rows.trieUndoesSpec) :=
  OpenClaim.holds_of_wide 5 Try.f5 rfl rfl rfl rfl rfl rfl rfl ⟨rfl, rfl, rfl, rfl, rfl⟩ rfl rfl rfl rfl rfl (by kernel_rfl) Try.func5 (by kernel_rfl)
    (of_decide_eq_true (by kernel_rfl)) (by unfold Func.isWrapper; first | (rw [if_pos (by decide +kernel)]; kernel_rfl) | (rw [if_neg (by decide +kernel)]; exact ⟨rfl, rfl⟩))
    (fun os started H enc _ => lifted os started H enc)

theorem proved : Rows.TrieUndoesSaid := over
#print axioms proved
end Go.Proofs.Ytfhpcpanjonpeaa.trieUndoes
