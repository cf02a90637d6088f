/-
  'For every input the Go function milestonelaw19.EtherCuts returns true, and each argument reads behind the call as it read before.'
  Conditions: none but the row's own (linux/amd64, sizes of what is read within the address space).
-/
import Derived.Test.YteolfclkcgfelaaRows
import Derived.WalkKit
import Derived.ProofKit
import Derived.OpenShut
import Derived.ShutString
import Derived.ChangeOld
import Derived.Below
import Derived.Lib.SmallJoins
import Derived.Lib.Hide
import Derived.Test.YteolfclkcgfelaaEl
namespace Go.Proofs.Yteolfclkcgfelaa.etherCuts
open Eth
open Coin
open Go.ChangeShapes Go.WideShapes Go.ChangeAt Go.RowKit
open Go.ChangeMaps (open_string shut_string)
set_option linter.unusedVariables false

theorem own : ownKnob Try.prog.godebug = none := by kernel_rfl
theorem laidOut : laidOutB Try.prog = true := by kernel_rfl

set_option maxRecDepth 8000
theorem walk (a0 : Int) (a1 : Int) (a2 : Int) (w : World) (w0 : (Lit.int .u8 a0).wf = true) (w1 : (Lit.int .u8 a1).wf = true) (w2 : (Lit.int .u8 a2).wf = true) :
    Calls Try.prog 6 #[.int .u8 a0, .int .u8 a1, .int .u8 a2] w fun e w' => e = .returned (.bool true) ∧ Below w.heap.size w w' := by
  have b0 := bounds_u8 w0
  have b1 := bounds_u8 w1
  have b2 := bounds_u8 w2
  obtain ⟨n, rfl⟩ := Int.eq_ofNat_of_zero_le b0.1
  obtain ⟨x, rfl⟩ := Int.eq_ofNat_of_zero_le b1.1
  obtain ⟨y, rfl⟩ := Int.eq_ofNat_of_zero_le b2.1
  obtain ⟨m, hm⟩ : ∃ m, m = n % 20 := ⟨_, rfl⟩
  obtain ⟨p, hp⟩ : ∃ p, p = x % 16 := ⟨_, rfl⟩
  obtain ⟨q, hq⟩ : ∃ q, q = y % 16 := ⟨_, rfl⟩
  have e0 : (n : Int).tmod 20 = (m : Int) := by rw [hm, Int.tmod_eq_emod_of_nonneg (by omega)]; omega
  have e1 : (x : Int).tmod 16 = (p : Int) := by rw [hp, Int.tmod_eq_emod_of_nonneg (by omega)]; omega
  have e2 : (y : Int).tmod 16 = (q : Int) := by rw [hq, Int.tmod_eq_emod_of_nonneg (by omega)]; omega
  have hm20 : m < 20 := by omega
  have hp16 : p < 16 := by omega
  have hq16 : q < 16 := by omega
  clear b0 b1 b2 hm hp hq w0 w1 w2
  by_cases hpq : p = q
  · subst hpq
    go_enter Try.func6, Try.ntmps6
    go_wp2_with fail
    refine (awake_any _).mono ?_
    rintro e wa ⟨rfl, h1⟩
    go_wp2_with fail
    refine (awake_any _).mono ?_
    rintro e wb ⟨rfl, h2⟩
    go_wp2_with fail
    go_ret
    exact ⟨rfl, h1.trans (h2.mono h1.size)⟩
  have hpi : ¬ (p : Int) = q := by omega
  have hqi : ¬ (q : Int) = p := by omega
  obtain ⟨Ha, hHa⟩ : ∃ Ha, Ha = upd H0 p q true := ⟨_, rfl⟩
  obtain ⟨Hb, hHb⟩ : ∃ Hb, Hb = upd Ha q p false := ⟨_, rfl⟩
  have HJ : Hid (∀ W g, LW w.heap.size w W g H0 [] (.slice none 0 0) → Calls Try.prog 8 #[.pointer (some ⟨g, 0, none⟩), .int .i64 (p : Int), .int .i64 (q : Int), .bool true] W fun e w' => e = .returned (.int .i64 0) ∧ LW w.heap.size w w' g Ha [] (.slice none 0 0)) := Lib.hid fun W g h =>
    (join_lw h p q hp16 hq16 hpq true).mono fun e w' ⟨h1, h2, h3⟩ => ⟨h1, hHa ▸ h2⟩
  have HJ2 : Hid (∀ W g l v, LW w.heap.size w W g Ha l v → Calls Try.prog 8 #[.pointer (some ⟨g, 0, none⟩), .int .i64 (q : Int), .int .i64 (p : Int), .bool false] W fun e w' => e = .returned (.int .i64 0) ∧ LW w.heap.size w w' g Hb l v) := Lib.hid fun W g l v h =>
    (join_lw h q p hq16 hp16 (fun e => hpq e.symm) false).mono fun e w' ⟨h1, h2, h3⟩ => ⟨h1, hHb ▸ h2⟩
  have HS : Hid (∀ W g v j b, j < 20 → LW w.heap.size w W g Ha (Lst p q 0 j) v → W.heap[b]? = some (.cells #[.int .u8 (j : Int)] 5 (0, 0)) → Calls Try.prog 9 #[.pointer (some ⟨g, 0, none⟩), .int .i64 (p : Int), .slice (some ⟨b, 0, none⟩) 1 1] W fun e w' => ∃ z, e = .returned (.int .i64 z) ∧ ∃ v', LW w.heap.size w w' g Ha (Lst p q 0 (j + 1)) v') := Lib.hid fun W g v j b hj h hb => by
    refine (send_one h p hp16 j (by omega) b (0, 0) hb (by rw [Lst_len]; omega)).mono ?_
    rintro e w' ⟨h1, v', h2, _⟩
    rw [snt_one Ha p q _ hq16 (fun b _ => hHa ▸ upd_on hpq b)] at h2
    rw [← Lst_snoc] at h2
    exact ⟨_, h1, v', h2⟩
  have HX : Hid (∀ W g v b, LW w.heap.size w W g Hb (Lst p q 0 m) v → Rd W (b + 1) (some ⟨b, 0, none⟩) [120] → Calls Try.prog 9 #[.pointer (some ⟨g, 0, none⟩), .int .i64 (p : Int), .slice (some ⟨b, 0, none⟩) 1 1] W fun e w' => e = .returned (.int .i64 0) ∧ ∃ v', LW w.heap.size w w' g Hb (Lst p q 0 m) v') := Lib.hid fun W g v b h hr => by
    refine (send_lw h p hp16 (some ⟨b, 0, none⟩) 1 (b + 1) [120] hr (fun h => by cases h) (fun h => by cases h) (by decide) (by rw [Lst_len]; omega)).mono ?_
    rintro e w' ⟨h1, v', h2, _⟩
    have e3 := snt_none Hb p [120] (fun b _ => by rw [hHb, hHa]; exact upd_off hpq b)
    rw [e3, List.append_nil, most_small (by rw [Lst_len]; omega)] at h2
    rw [e3] at h1
    exact ⟨h1, v', h2⟩
  have HH : Hid (∀ W g v, LW w.heap.size w W g Hb (Lst p q 0 m) v → Calls Try.prog 15 #[.pointer (some ⟨g, 0, none⟩), .int .i64 (p : Int), .int .i64 (q : Int)] W fun e w' => e = .returned (.bool false) ∧ W = w') := Lib.hid fun W g v h => by
    have := hears_two h.e p q hp16 hq16
    rw [show Hb p q = false by rw [hHb, hHa]; exact upd_off hpq q] at this
    exact this
  have HN : Hid (∀ W g v i k, LW w.heap.size w W g Hb (Lst p q i k) v → Calls Try.prog 14 #[.pointer (some ⟨g, 0, none⟩)] W fun e w' => e = .returned (.int .i64 (k : Int)) ∧ W = w') := Lib.hid fun W g v i k h => by
    have := len_any h.e
    rw [Lst_len] at this
    exact this
  have HT : Hid (∀ W g v i k, k < 20 → LW w.heap.size w W g Hb (Lst p q i (k + 1)) v → Calls Try.prog 13 #[.pointer (some ⟨g, 0, none⟩), .int .i64 0] W fun e w' => ∃ u v', e = .returned (.tuple #[.agg #[.int .i64 (p : Int), .int .i64 (q : Int), u], .int .i64 0]) ∧ Own w' W.heap.size u [UInt8.ofNat i] ∧ LW w.heap.size w w' g Hb (Lst p q (i + 1) k) v' ∧ W.heap.size ≤ w'.heap.size) := Lib.hid fun W g v i k hk h => by
    have hl := Lst_len p q i (k + 1)
    refine (take_lw h (by omega) (by omega) (fun x hx => by
      obtain ⟨j, _, rfl⟩ := List.mem_map.1 hx
      simp) 0).mono ?_
    rintro e w' ⟨u, v', h1, h2, h3, h4⟩
    have hz := plc_zero (Lst p q i (k + 1)).length
    simp only [hz, Lst_cons, rm_zero, List.getElem_cons_zero] at h1 h2 h3
    exact ⟨u, v', h1, h2, h3, h4.size⟩
  have HR : Hid (∀ W : World, Rd (W.alloc (.cells #[.int .u8 120] 5 (1, 2))) (W.heap.size + 1) (some ⟨W.heap.size, 0, none⟩) [120]) := Lib.hid fun W => lit_rd W 120 (1, 2)
  have kc := fun (w : World) (C : Array Value) (n c : Nat) => Lib.run_convert_bytes_const (P := Try.prog) w 37 5 C n c Try.underlying37 Try.underlying5
  clear hHa hHb
  have hpi9 : (p : Int) < 16 := by omega
  have hqi9 : (q : Int) < 16 := by omega
  have hmi : (m : Int) < 20 := by omega
  go_enter Try.func6, Try.ntmps6
  go_upto_region 8 with (first
    | (go_at_call 7; (with_reducible refine (awake_any _).mono ?_); rintro e wa ⟨rfl, ha⟩; have L0 := Lib.hid (LW.new ha ha.size); clear ha)
    | (refine arm_build rfl rfl ?_)
    | (refine arm_box rfl _ rfl rfl ?_)
    | (go_at_call 8; (with_reducible refine (HJ.out _ _ L0.out).mono ?_); rintro e w1 ⟨rfl, h1⟩; have L1 := Lib.hid h1; clear h1))
  clear L0
  generalize wa.heap.size = g at *
  go_loopw [10] (fun v10 wr => ∃ j : Nat, j ≤ m ∧ v10 = .int .i64 (j : Int) ∧ Hid (∃ v, LW w.heap.size w wr g Ha (Lst p q 0 j) v)) (fun v10 _ => m - (intOf v10).toNat)
  case atStart => exact ⟨0, Nat.zero_le _, rfl, _, L1.out⟩
  case round =>
    obtain ⟨j, hj, rfl, HL⟩ := hrel
    clear L1
    rcases Nat.lt_or_ge j m with hlt | hge
    · have hlt' : (j : Int) < m := by omega
      have hw : IntKind.u8.wrap (j : Int) = j := by rw [IntKind.wrap_u8]; omega
      obtain ⟨v, hv⟩ := HL.out
      have HV := Lib.hid (And.intro (hv.step ((Below.refl _ _).alloc (Nat.le_refl _) (.cells #[.int .u8 (j : Int)] 5))) (heap_alloc_new wr (.cells #[.int .u8 (j : Int)] 5)))
      clear hv
      go_wp2_with (go_at_call 9; (with_reducible refine (HS.out _ _ _ j _ (by omega) HV.out.1 HV.out.2).mono ?_); rintro e w2 ⟨z, rfl, h2⟩; have H2 := Lib.hid h2; clear h2)
      go_roundw
      case rel => exact ⟨j + 1, hlt, by go_num, H2.out⟩
      case measure => simp [intOf]; omega
    · obtain rfl : j = m := by omega
      obtain ⟨v, hv⟩ := HL.out
      have HV := Lib.hid hv
      clear hv
      go_upto_region 15 with (first
        | (go_at_call 8; (with_reducible refine (HJ2.out _ _ _ _ HV.out).mono ?_); rintro e w2 ⟨rfl, h2⟩; have L2 := Lib.hid h2; clear h2)
        | (go_at_call 9; (with_reducible refine (HX.out _ _ _ _ (L2.out.step ((Below.refl _ _).alloc (Nat.le_refl _) _)) (HR.out _)).mono ?_); rintro e w3 ⟨rfl, v3, h3⟩; have L3 := Lib.hid h3; clear h3)
        | (go_at_call 15; (with_reducible refine (HH.out _ _ _ L3.out).mono ?_); rintro e w4 ⟨rfl, rfl⟩)
        | (go_at_call 14; (with_reducible refine (HN.out _ _ _ _ _ L3.out).mono ?_); rintro e w5 ⟨rfl, rfl⟩))
      clear HV HL L2
      go_loopw [11] (fun v11 wr => ∃ i : Nat, i ≤ j ∧ v11 = .int .i64 (i : Int) ∧ Hid (∃ v k, k + i = j ∧ LW w.heap.size w wr g Hb (Lst p q i k) v)) (fun v11 _ => j - (intOf v11).toNat)
      case atStart => exact ⟨0, Nat.zero_le _, rfl, _, j, rfl, L3.out⟩
      case round =>
        obtain ⟨i, hi, rfl, HL⟩ := hrel
        clear L3
        rcases Nat.lt_or_ge i j with hlt | hge
        · have hlt' : (i : Int) < j := by omega
          have hw : IntKind.u8.wrap (i : Int) = i := by rw [IntKind.wrap_u8]; omega
          obtain ⟨v, k, hk, hv⟩ := HL.out
          obtain ⟨k, rfl⟩ : ∃ k', k = k' + 1 := ⟨k - 1, by omega⟩
          have HV := Lib.hid (And.intro hv hk)
          clear hv hk
          go_wp2_with (go_at_call 13; (with_reducible refine (HT.out _ _ _ i k (by have := HV.out.2; omega) HV.out.1).mono ?_); rintro e w2 ⟨u, v2, rfl, O2, h2, s2⟩; obtain ⟨b, c, hu, hb, hbl⟩ := own_cell O2; subst hu; have BA := (Below.refl w2.heap.size w2).alloc (Nat.le_refl _) (.cells #[.int .i64 (p : Int), .int .i64 (q : Int), .slice (some ⟨b, 0, none⟩) 1 c] 39); have hb2 := (BA.cell (p := ⟨b, 0, none⟩) hbl).trans hb; rw [Coin.b8_small i (by omega)] at hb2; obtain ⟨z0, z1, z2, zf⟩ := row3f (heap_alloc_new w2 (.cells #[.int .i64 (p : Int), .int .i64 (q : Int), .slice (some ⟨b, 0, none⟩) 1 c] 39)); obtain ⟨y0, y1, y2, yf⟩ := row3f (heap_alloc_new w2 (.cells #[.int .i64 0, .int .i64 0, .slice none 0 0] 39)); have H2 := Lib.hid (h2.step BA); clear O2 h2 s2 hb hbl BA)
          go_roundw
          case rel => exact ⟨i + 1, hlt, by go_num, v2, k, by have := HV.out.2; omega, H2.out⟩
          case measure => simp [intOf]; omega
        · obtain rfl : i = j := by omega
          obtain ⟨v, k, hk, hv⟩ := HL.out
          obtain rfl : k = 0 := by omega
          have HV := Lib.hid hv
          clear hv hk
          go_wp2_with (go_at_call 14; (with_reducible refine (HN.out _ _ _ _ _ HV.out).mono ?_); rintro e w5 ⟨rfl, rfl⟩)
          go_ret
          exact ⟨rfl, HV.out.b⟩

set_option maxRecDepth 100000 in
theorem lifted (os : Os) (started : os.Started) (H : Type) (enc : TypeId × Value → H) :
    ReturnsInHanded {} Try.checked os 6 .any (Rows.etherCutsSpec.pre6 enc Try.prog Try.f6 Rows.etherCutsRow.domain false) (Rows.etherCutsSpec.post enc Try.prog Try.f6 false true false false) := by
  refine returnsInHanded_of_change (C := Try.checked) own started (by kernel_rfl) Try.func6
    (ChangeSpec.witness6 (enc := enc) (C := Try.checked) false ⟨#[], #[.int .u8 0, .int .u8 0, .int .u8 0], []⟩ 8 (by kernel_rfl) (by kernel_rfl) (by kernel_rfl) (by kernel_rfl)) ?_
  intro W base args ds gs before hval0 hW hcnd _
  have hval : ∀ (j : Nat) t v, Try.f6.params[j]? = some t → args[j]? = some v → Value.okWide Try.prog W .any base t v := hval0
  have hW' := hW
  obtain ⟨p, q, hA0, hV, rfl, hfz, hnd⟩ := hW
  have hA : DataW.TrodAll enc Try.prog W 0 (fun _ => true) true Try.f6.params.toList args.toList ds p := hA0
  rw [Try.params6] at hA hval
  obtain ⟨v0, vs0, d0, ds0, p0, q0, hargs, rfl, rfl, h0, r0⟩ := trodAll_cons hA
  obtain ⟨v1, vs1, d1, ds1, p1, q1, rfl, rfl, rfl, h1, r1⟩ := trodAll_cons r0
  obtain ⟨v2, vs2, d2, ds2, p2, q2, rfl, rfl, rfl, h2, r2⟩ := trodAll_cons r1
  obtain ⟨rfl, rfl, rfl⟩ := trodAll_nil r2
  obtain rfl : args = #[v0, v1, v2] := by cases args; simp_all
  obtain ⟨rfl, rfl⟩ := trodVars_none hV
  obtain ⟨a0, rfl, rfl, rfl, w0⟩ := open_int Try.underlying5 (hval 0 5 v0 rfl rfl) h0
  obtain ⟨a1, rfl, rfl, rfl, w1⟩ := open_int Try.underlying5 (hval 1 5 v1 rfl rfl) h1
  obtain ⟨a2, rfl, rfl, rfl, w2⟩ := open_int Try.underlying5 (hval 2 5 v2 rfl rfl) h2
  clear hA0 hval0
  refine (walk a0 a1 a2 W w0 w1 w2).mono fun e W' ⟨he, bel⟩ => ?_
  subst he
  exact ⟨_, rfl, _, _, _, [], _, [], hW', trodAll_mk1 (shut_bool Try.underlying4 _), (trodAll_cons_mk (shut_int Try.underlying5 w0) (trodAll_cons_mk (shut_int Try.underlying5 w1) (trodAll_cons_mk (shut_int Try.underlying5 w2) trodAll_mk0))), rfl, bel.frame _, fun h => by cases h⟩

theorem over : Rows.etherCutsRow.holds Try.pinned (OpenSpec.ofChange Rows.etherCutsSpec) :=
  OpenClaim.holds_of_wide 6 Try.f6 rfl rfl rfl rfl rfl rfl rfl ⟨rfl, rfl, rfl, rfl, rfl⟩ rfl rfl rfl rfl rfl (by kernel_rfl) Try.func6 (by kernel_rfl)
    (of_decide_eq_true (by kernel_rfl)) (by unfold Func.isWrapper; first | (rw [if_pos (by decide +kernel)]; kernel_rfl) | (rw [if_neg (by decide +kernel)]; exact ⟨rfl, rfl⟩))
    (fun os started H enc _ => lifted os started H enc)

theorem proved : Rows.EtherCutsSaid := over
#print axioms proved
end Go.Proofs.Yteolfclkcgfelaa.etherCuts
