/-
  'For every input the Go function milestonelaw06.FrameCuts returns true, and each argument reads behind the call as it read before.'
  Conditions: none but the row's own (linux/amd64, sizes of what is read within the address space).
-/
import Derived.Test.YtjhkgdgbmmpegaaRows
import Derived.WalkKit
import Derived.ProofKit
import Derived.OpenShut
import Derived.ShutString
import Derived.ChangeOld
import Derived.Below
import Derived.Lib.SmallJoins
import Derived.Lib.Hide
import Derived.Test.YtjhkgdgbmmpegaaFCu
namespace Go.Proofs.Ytjhkgdgbmmpegaa.frameCuts
open Go.Proofs.Ytjhkgdgbmmpegaa.Frm
open Coin (b8 Rd Row Own sz coin got str)
open Go.ChangeShapes Go.WideShapes Go.ChangeAt Go.RowKit
open Go.ChangeMaps (open_string shut_string)
set_option linter.unusedVariables false

theorem own : ownKnob Try.prog.godebug = none := by kernel_rfl
theorem laidOut : laidOutB Try.prog = true := by kernel_rfl

theorem app_q {w : World} {ops : Array Oper} {rest : List Oper} {o : Oper} {a : Act} {Q : Exit → Act → World → Prop} (hgd : o.guard = none) (s x : Operand)
    (ho : o.op = .call { callee := .builtin .append, args := #[s, x], argTypes := #[22, 22] }) (B : Nat) (v : Value) (l r : List UInt8) (A : Option Addr) (m c Bx : Nat) (T : List UInt8) (n : Nat)
    (hs : a.eval s = v) (hx : a.eval x = .slice A m c) (hown : Own w B v l) (hr : Rd w Bx A r) (hm : m = r.length) (hA : A = none → c = 0) (hT : T = l ++ r) (hn : n = T.length) (hlen : n ≤ 1000000) (hB : B ≤ w.heap.size) (B0 : Nat) (w0 : World) (hb : Below B0 w0 w) (hB0 : B0 ≤ B)
    (h : ∀ A' c' w', Own w' B (.slice A' n c') T → Below B0 w0 w' → n ≤ c' → (A' = none → c' = 0) → w.grownBy w' v.ownBlock → wpList Try.prog ops Q rest (a.put o.dst (.slice A' n c')) w') : wpList Try.prog ops Q (o :: rest) a w := by
  subst hT hn
  refine Coin.app_any hgd s x ho B v l r A m c Bx hs hx hown hr hm hA (by rw [List.length_append] at hlen; exact hlen) hB B0 w0 hb hB0 fun v' w' h1 h2 h3 => ?_
  have h1' := h1
  obtain ⟨A', c', rfl, _, h4, h5⟩ := h1'.form
  exact h A' c' w' h1 h2 h4 h5 h3
theorem ints_past {w w' : World} {B B' : Nat} {v u : Value} {l : List Nat} {p : List UInt8} (h : Ints w B v l) (o : Own w B' u p) (g : w.grownBy w' u.ownBlock) : Ints w' B v l := World.ownsRow.kept h g (apart h o (by decide))
theorem own_past {w w' : World} {B B' : Nat} {v u : Value} {l : List Nat} {p : List UInt8} (o : Own w B v p) (h : Ints w B' u l) (g : w.grownBy w' u.ownBlock) : Own w' B v p := World.ownsRow.kept o g (apart o h (by decide))
theorem ints_cell (w : World) (n : Nat) : (w.alloc (.cells #[.int .i64 (n : Int)] 3)).cell? ⟨w.heap.size, 0, none⟩ = some (.int .i64 (n : Int)) := cell_of_row _ _ 0 _ 3 (0, 0) (heap_alloc_new w _)

theorem walk (a0 : Option Addr) (len0 cap0 : Nat) (z0 : List (List UInt8)) (a1 : Int) (w : World) (w0 : IsMat w a0 len0 cap0 z0) (w1 : (Lit.int .u16 a1).wf = true) :
    Calls Try.prog 5 #[.slice a0 len0 cap0, .int .u16 a1] w fun e w' => e = .returned (.bool true) ∧ Below w.heap.size w w' := by
  obtain ⟨hl1, hl2, hl3, hl4, M, hl5⟩ := w0
  have k1 := bounds_u16 w1
  clear w1
  unfold maxLen at hl3
  obtain ⟨cut, rfl⟩ := Int.eq_ofNat_of_zero_le k1.1
  have cs : ∀ W, Below w.heap.size w W → Calls Try.prog 12 #[.slice a0 len0 cap0] W fun e w' => e = .returned (.bool (few z0)) ∧ W = w' := fun W h => by
    rw [hl1]; exact short_any a0 cap0 w.heap.size z0 W (by unfold maxLen; omega) (M.below h (Nat.le_refl _))
  by_cases hf : few z0 = false
  · rw [hf] at cs
    clear hl1 hl5 M k1
    go_enter Try.func5, Try.ntmps5
    go_wp2_with fail
    refine (awake_any _).mono ?_
    rintro e w1 ⟨rfl, h1⟩
    go_wp2_with fail
    refine (cs _ h1).mono ?_
    rintro e w' ⟨rfl, rfl⟩
    go_wp2_with fail
    refine (awake_any _).mono ?_
    rintro e w2 ⟨rfl, h2⟩
    go_wp2_with fail
    go_ret
    exact ⟨rfl, h1.trans (h2.mono h1.size)⟩
  have hf : few z0 = true := by simpa using hf
  rw [hf] at cs
  obtain ⟨h200, h12⟩ := (few_iff z0).1 hf
  have hsm := packs_take_small z0 h200 h12
  rw [← hl1] at h12
  have HN := Lib.hid hl1
  have cp : ∀ W (k : Nat) (A : Option Addr) (c : Nat) (hk : k < z0.length), Below w.heap.size w W → (A = none → c = 0) → Rd w w.heap.size A z0[k] → Calls Try.prog 10 #[.int .u8 (k : Int), .slice A z0[k].length c] W (Coin.CoinOwn W (pack (UInt8.ofNat k) z0[k])) := fun W k A c hk h hA R => by
    have h1 := h200 z0[k] (List.getElem_mem hk)
    have h2 := rpack_any (UInt8.ofNat k) A c z0[k] W (by omega) ((R.below h (Nat.le_refl _)).more h.size) hA
    have h3 : (UInt8.ofNat k).toNat = k := by rw [UInt8.toNat_ofNat']; have := HN.out; omega
    rw [h3] at h2
    exact h2
  have HSM := Lib.hid hsm
  have HTP := Lib.hid (packs_take z0)
  have HTS := Lib.hid (stops_take z0)
  have HS2 := Lib.hid h200
  have HM := Lib.hid M
  have CP := Lib.hid cp
  clear hf hsm h200 hl1 hl5 cp M
  go_enter Try.func5, Try.ntmps5
  go_wp2_with fail
  refine (awake_any _).mono ?_
  rintro e wa ⟨rfl, ha⟩
  go_wp2_with fail
  refine (cs _ ha).mono ?_
  rintro e w' ⟨rfl, rfl⟩
  clear cs
  go_wp2_with fail
  go_loopw [5, 6, 7] (fun v u i wr => ∃ k : Nat, k ≤ len0 ∧ i = .int .i64 k ∧ Own wr w.heap.size v (packs 0 (z0.take k)) ∧ Ints wr w.heap.size u (stops 0 (z0.take k)) ∧ Below w.heap.size w wr) (fun _ _ i _ => len0 - (intOf i).toNat)
  case atStart => exact ⟨0, by omega, rfl, Coin.Own.nil _ _, Ints.nil _ _, ha⟩
  case round =>
    obtain ⟨k, hk, rfl, O, I, B⟩ := hrel
    by_cases hlt : k < len0
    · have hkl : k < z0.length := by rw [← HN.out]; exact hlt
      obtain ⟨x, hx, _, hc⟩ := HM.out (by omega)
      obtain ⟨A', c', kc, k2, k3, k4⟩ := hc k hkl
      have kc := (B.cell (by rw [Coin.block_add]; omega)).trans kc
      have c := CP.out wr k A' c' hkl B k3 k4
      have hlt' : (k : Int) < len0 := by omega
      have hw : IntKind.u8.wrap (k : Int) = k := by rw [IntKind.wrap_u8]; omega
      have hT := HTP.out k hkl
      have hS := HTS.out k hkl
      have hsm := HSM.out (k + 1)
      have hSl : (stops 0 (z0.take k)).length ≤ 12 := by rw [stops_len, List.length_take]; omega
      clear hc k4 k2
      subst hx
      obtain ⟨T, hT0⟩ : ∃ T, T = packs 0 (z0.take (k + 1)) := ⟨_, rfl⟩
      rw [← hT0] at hT hS hsm
      have HT0 := Lib.hid hT0
      clear hT0
      generalize packs 0 (z0.take k) = P at *
      obtain ⟨S, hS0⟩ : ∃ S, S = stops 0 (z0.take k) := ⟨_, rfl⟩
      rw [← hS0] at hS hSl I
      clear hS0
      generalize pack (UInt8.ofNat k) z0[k] = q at *
      generalize z0[k].length = y at *
      obtain ⟨nT, hnT⟩ : ∃ nT, nT = T.length := ⟨_, rfl⟩
      have hnT2 : nT ≤ 1000000 := by omega
      rw [← hnT] at hS hsm
      have HT := Lib.hid hT
      have HS := Lib.hid hS
      have HNT := Lib.hid hnT
      have HC := Lib.hid c
      clear hT hS hnT c hsm
      go_wp2_with (first
        | (go_at_call 10; (with_reducible refine HC.out.mono ?_); rintro e w2 ⟨v2, rfl, O2, B2⟩; have b2 := B.trans (B2.mono B.size); have s2 := b2.size; have OP2 := O.kept B2; have I2 := I.kept B2; obtain ⟨A2, c2, hv2, R2, hc2, hA2⟩ := O2.form; subst hv2; obtain ⟨n2, hn2⟩ : ∃ n2, n2 = q.length := ⟨_, rfl⟩; rw [← hn2] at hc2 ⊢; have HN2 := Lib.hid hn2; clear hn2 O2)
        | (at_builtin; (with_reducible refine app_q rfl (.tmp 28) (.tmp 35) rfl w.heap.size u5 P q A2 n2 c2 w2.heap.size T nT rfl rfl OP2 R2 HN2.out hA2 HT.out HNT.out hnT2 s2 w.heap.size w b2 (Nat.le_refl _) ?_); intro A3 c3 w3 O3 b3 hc3 hA3 G3; have I3 := ints_past I2 OP2 G3; have I4 := I3.kept (w' := w3.alloc (.cells #[.int .i64 (nT : Int)] 3)) ((Below.refl _ _).alloc (Nat.le_refl _) _); have O4 := O3.kept (w' := w3.alloc (.cells #[.int .i64 (nT : Int)] 3)) ((Below.refl _ _).alloc (Nat.le_refl _) _); have b4 := b3.alloc b3.size (.cells #[.int .i64 (nT : Int)] 3); have q4 := ints_cell w3 nT; have s4 := b4.size)
        | (at_builtin; (with_reducible refine add_int rfl (.tmp 37) (.tmp 40) rfl w.heap.size u6 S nT w3.heap.size rfl rfl I4 q4 (by omega) s4 ?_); intro u9 w5 I5 G5; have O5 := own_past O4 I4 G5; have b5 := b4.grown G5 s4 (fun k hk => (World.ownsRow.lt I4 k hk).1)))
      exact ⟨⟨k + 1, by omega, by simp, by rw [← HT0.out]; exact O5, by rw [HS.out]; exact I5, b5⟩, by simp [intOf]; omega⟩
    · obtain rfl : k = len0 := by omega
      have hlt' : ¬ (k : Int) < k := by omega
      have hkz : z0.take k = z0 := List.take_of_length_le (by rw [← HN.out]; exact Nat.le_refl _)
      have hsm := HSM.out k
      rw [hkz] at O I hsm
      have hcc : ∀ kk, kk ≤ (packs 0 z0).length → ∃ xs, chain ((packs 0 z0).take kk) 0 xs (last kk 0 (stops 0 z0)) ∧ xs.length = upto kk (stops 0 z0) ∧ ends ((packs 0 z0).take kk) (last kk 0 (stops 0 z0)) (if last kk 0 (stops 0 z0) = kk then 0 else 5) := fun kk h =>
        cut_chain z0 (fun p hp => by have := HS2.out p hp; omega) 0 [] kk (Nat.zero_le _) (by rw [List.length_nil, Nat.zero_add]; exact h)
      have hSz := stops_len 0 z0
      rw [← HN.out] at hSz
      generalize stops 0 z0 = S at *
      generalize packs 0 z0 = P at *
      obtain ⟨A3, c3, hv, R, hc3, hA3⟩ := O.form
      subst hv
      obtain ⟨A5, c5, hu, hc5⟩ := I.form
      subst hu
      obtain ⟨L, hL⟩ : ∃ L, L = P.length := ⟨_, rfl⟩
      rw [← hL] at hcc hc3 hsm
      simp only [← hL]
      obtain ⟨kk, hkk⟩ : ∃ kk, kk = cut % (L + 1) := ⟨_, rfl⟩
      have hkL : kk ≤ L := by rw [hkk]; have := Nat.mod_lt cut (show L + 1 > 0 by omega); omega
      have hrem : (cut : Int) % ((L : Int) + 1) = (kk : Int) := by rw [hkk]; simp
      obtain ⟨xs, hx1, hx2, hx3⟩ := hcc kk hkL
      have hup := Coin.upto_any (A := A3) L c3 kk hA3 hc3 hkL
      have hPk : (P.take kk).length = kk := by rw [List.length_take]; omega
      have c := scan_any A3 c3 wr.heap.size (P.take kk) wr (by rw [hPk]; omega) (by rw [hPk]; omega) hA3 (Nat.le_refl _) (R.take kk)
      rw [hPk] at c
      obtain ⟨up, hup0⟩ : ∃ up, up = upto kk S := ⟨_, rfl⟩
      obtain ⟨bb, hbb⟩ : ∃ bb, bb = last kk 0 S := ⟨_, rfl⟩
      obtain ⟨er, her⟩ : ∃ er, er = if bb = kk then 0 else 5 := ⟨_, rfl⟩
      rw [← hbb] at hx1 hx3
      rw [← her] at hx3
      rw [← hup0] at hx2
      have c := Calls.mono' c (Q' := fun e w' => ∃ A c, e = .returned (.tuple #[.slice A up c, .int .i64 (bb : Nat), .int .i64 (er : Nat)]) ∧ Below wr.heap.size wr w') (fun e w' h => by
        obtain ⟨v, ys, b, r, rfl, I, h1, h2, h3⟩ := h
        obtain ⟨e1, rfl, rfl⟩ := chain_one _ _ _ _ _ _ _ _ h1 h2 hx1 hx3 (Nat.zero_le _)
        obtain ⟨A, c, rfl, _, _⟩ := I.form
        have : ys.length = up := by rw [← hx2, ← e1, List.length_map]
        rw [this]
        exact ⟨A, c, rfl, h3⟩)
      have hbg := last_get kk S 0
      rw [← hbb, ← hup0] at hbg
      have hul := upto_le kk S
      have hut := upto_lt kk S
      have hue := upto_end kk S
      rw [← hup0] at hul hut hue
      obtain ⟨nS, hnS⟩ : ∃ nS, nS = S.length := ⟨_, rfl⟩
      have hS9 : nS ≤ 12 := by omega
      rw [← hnS] at hul hc5
      simp only [← hnS]
      have HNS := Lib.hid hnS
      have HUT := Lib.hid hut
      have HUE := Lib.hid hue
      have HBG := Lib.hid hbg
      have HER := Lib.hid her
      have HI : Hid (Ints wr w.heap.size (.slice A5 nS c5) S) := by rw [HNS.out]; exact I
      have HC := Lib.hid c
      have hcut : cut < 65536 := by omega
      have hL9 : L ≤ 3600 := by omega
      clear hSz hL hkk hx1 hx2 hx3 hPk hcc hup0 hbb her c hbg hut hue hnS I O R hkz hsm
      go_wp2_with (first
        | (go_at_call 13; (with_reducible refine HC.out.mono ?_); rintro e ws ⟨A6, c6, rfl, BS⟩))
      have I6 := HI.out.kept BS
      have b6 := B.trans (BS.mono B.size)
      have HI6 := Lib.hid I6
      clear I6 HI HC
      go_loopw [12, 13] (fun n wh wr2 => wr2 = ws ∧ ∃ j : Nat, j ≤ up ∧ n = .int .i64 j ∧ wh = .int .i64 ((0 :: S).getD j 0 : Nat)) (fun n _ _ => up - (intOf n).toNat)
      case atStart => exact ⟨rfl, 0, Nat.zero_le _, rfl, rfl⟩
      case round =>
        obtain ⟨rfl, j, hj, rfl, rfl⟩ := hrel
        by_cases hjs : j < up
        · have hjS : j < S.length := by rw [← HNS.out]; omega
          have hle := HUT.out j hjs hjS
          have hst := last_step S j hjS
          obtain ⟨q, hq, hcell⟩ := HI6.out.at j hjS
          subst hq
          have hj1 : (j : Int) < nS := by omega
          generalize S[j] = y at *
          have hyk : (y : Int) ≤ kk := by omega
          have HST := Lib.hid hst
          clear hst hle hjS
          generalize (0 :: S).getD j 0 = y0 at *
          go_wp2_with fail
          exact ⟨⟨trivial, j + 1, by omega, by simp, by rw [HST.out]⟩, by simp [intOf]; omega⟩
        · obtain rfl : j = up := by omega
          rw [← HBG.out]
          have hfin : (bb = kk ∧ er = 0) ∨ (bb ≠ kk ∧ er = 5) := by
            have := HER.out
            split at this
            · exact .inl ⟨by assumption, this⟩
            · exact .inr ⟨by assumption, this⟩
          by_cases hjn : j < nS
          · have hjS : j < S.length := by rw [← HNS.out]; exact hjn
            have hlt2 := HUE.out hjS
            obtain ⟨q, hq, hcell⟩ := HI6.out.at j hjS
            subst hq
            have hj1 : (j : Int) < nS := by omega
            generalize S[j] = y at *
            have hyk : ¬ (y : Int) ≤ kk := by omega
            rcases hfin with ⟨rfl, rfl⟩ | ⟨hbk, rfl⟩
            · go_wp2_with fail
              go_ret
              exact ⟨rfl, b6⟩
            · have hbk' : ((bb : Int) == (kk : Int)) = false := by simp; omega
              go_wp2_with fail
              go_ret
              exact ⟨rfl, b6⟩
          · have hj1 : ¬ (j : Int) < nS := by omega
            rcases hfin with ⟨rfl, rfl⟩ | ⟨hbk, rfl⟩
            · go_wp2_with fail
              go_ret
              exact ⟨rfl, b6⟩
            · have hbk' : ((bb : Int) == (kk : Int)) = false := by simp; omega
              go_wp2_with fail
              go_ret
              exact ⟨rfl, b6⟩

set_option maxRecDepth 100000 in
theorem lifted (os : Os) (started : os.Started) (H : Type) (enc : TypeId × Value → H) :
    ReturnsInHanded {} Try.checked os 5 .any (Rows.frameCutsSpec.pre6 enc Try.prog Try.f5 Rows.frameCutsRow.domain false) (Rows.frameCutsSpec.post enc Try.prog Try.f5 false true false false) := by
  refine returnsInHanded_of_change (C := Try.checked) own started (by kernel_rfl) Try.func5
    (ChangeSpec.witness6 (enc := enc) (C := Try.checked) false ⟨#[], #[.slice none 0 0, .int .u16 0], []⟩ 8 (by kernel_rfl) (by kernel_rfl) (by kernel_rfl) (by kernel_rfl)) ?_
  intro W base args ds gs before hval0 hW hcnd _
  have hval : ∀ (j : Nat) t v, Try.f5.params[j]? = some t → args[j]? = some v → Value.okWide Try.prog W .any base t v := hval0
  have hW' := hW
  obtain ⟨p, q, hA0, hV, rfl, hfz, hnd⟩ := hW
  have hA : DataW.TrodAll enc Try.prog W 0 (fun _ => true) true Try.f5.params.toList args.toList ds p := hA0
  rw [Try.params5] at hA hval
  obtain ⟨v0, vs0, d0, ds0, p0, q0, hargs, rfl, rfl, h0, r0⟩ := trodAll_cons hA
  obtain ⟨v1, vs1, d1, ds1, p1, q1, rfl, rfl, rfl, h1, r1⟩ := trodAll_cons r0
  obtain ⟨rfl, rfl, rfl⟩ := trodAll_nil r1
  obtain rfl : args = #[v0, v1] := by cases args; simp_all
  obtain ⟨rfl, rfl⟩ := trodVars_none hV
  obtain ⟨a0, len0, cap0, rfl⟩ := okWide_slice Try.underlying32 (hval 0 32 v0 rfl rfl)
  have k0 := h0
  have lt0 : ∀ x ∈ p0, x.block < W.heap.size := by obtain ⟨m, hm⟩ := k0; exact DataW.trod_lt m _ _ _ hm
  obtain ⟨z0, w0⟩ : ∃ zs, IsMat W a0 len0 cap0 zs := by
    obtain ⟨fuel, hf⟩ := h0
    rcases Go.Deep.open_int_rows Try.underlying32 Try.underlying22 Try.underlying5 (by kernel_rfl) (by kernel_rfl) hf with ⟨hcs, _⟩ | ⟨x, l, c, A, L, C, Z, hcs, _, hl, hm, _, hrow⟩
    · simp [Value.cells] at hcs
      obtain ⟨rfl, rfl, rfl⟩ := hcs
      exact ⟨[], mat_nil W⟩
    · simp [Value.cells] at hcs
      obtain ⟨rfl, rfl, rfl⟩ := hcs
      exact mat_of hl hm hrow
  obtain ⟨a1, rfl, rfl, rfl, w1⟩ := open_int Try.underlying40 (hval 1 40 v1 rfl rfl) h1
  clear hA0 hval0
  refine (walk a0 len0 cap0 z0 a1 W w0 w1).mono fun e W' ⟨he, bel⟩ => ?_
  subst he
  exact ⟨_, rfl, _, _, _, [], _, [], hW', trodAll_mk1 (shut_bool Try.underlying4 _), (trodAll_cons_mk (Below.trod laidOut (by kernel_rfl) (of_decide_eq_true (by kernel_rfl)) k0 bel lt0) (trodAll_cons_mk (shut_int Try.underlying40 w1) trodAll_mk0)), rfl, bel.frame _, fun h => by cases h⟩

theorem over : Rows.frameCutsRow.holds Try.pinned (OpenSpec.ofChange Rows.frameCutsSpec) :=
  OpenClaim.holds_of_wide 5 Try.f5 rfl rfl rfl rfl rfl rfl rfl ⟨rfl, rfl, rfl, rfl, rfl⟩ rfl rfl rfl rfl rfl (by kernel_rfl) Try.func5 (by kernel_rfl)
    (of_decide_eq_true (by kernel_rfl)) (by unfold Func.isWrapper; first | (rw [if_pos (by decide +kernel)]; kernel_rfl) | (rw [if_neg (by decide +kernel)]; exact ⟨rfl, rfl⟩))
    (fun os started H enc _ => lifted os started H enc)

theorem proved : Rows.FrameCutsSaid := over
#print axioms proved
end Go.Proofs.Ytjhkgdgbmmpegaa.frameCuts
