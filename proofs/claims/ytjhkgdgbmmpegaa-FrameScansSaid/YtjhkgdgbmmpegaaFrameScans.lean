/-
  'For every input the Go function milestonelaw06.FrameScans returns true, and each argument reads behind the call as it read before.'
  Conditions: none but the row's own (linux/amd64, sizes of what is read within the address space).
-/
import Derived.Test.YtjhkgdgbmmpegaaRows
import Derived.WalkKit
import Derived.ProofKit
import Derived.OpenShut
import Derived.ShutString
import Derived.ChangeOld
import Derived.Below
import Derived.Lib.SmallJoins
import Derived.Lib.Hide
import Derived.Test.YtjhkgdgbmmpegaaFCu
namespace Go.Proofs.Ytjhkgdgbmmpegaa.frameScans
open Go.Proofs.Ytjhkgdgbmmpegaa.Frm
open Coin (b8 Rd Row Own sz coin got str)
open Go.ChangeShapes Go.WideShapes Go.ChangeAt Go.RowKit
open Go.ChangeMaps (open_string shut_string)
set_option linter.unusedVariables false

theorem own : ownKnob Try.prog.godebug = none := by kernel_rfl
theorem laidOut : laidOutB Try.prog = true := by kernel_rfl

theorem app_q {w : World} {ops : Array Oper} {rest : List Oper} {o : Oper} {a : Act} {Q : Exit → Act → World → Prop} (hgd : o.guard = none) (s x : Operand)
    (ho : o.op = .call { callee := .builtin .append, args := #[s, x], argTypes := #[22, 22] }) (B : Nat) (v : Value) (l r : List UInt8) (A : Option Addr) (m c Bx : Nat) (T : List UInt8) (n : Nat)
    (hs : a.eval s = v) (hx : a.eval x = .slice A m c) (hown : Own w B v l) (hr : Rd w Bx A r) (hm : m = r.length) (hA : A = none → c = 0) (hT : T = l ++ r) (hn : n = T.length) (hlen : n ≤ 1000000) (hB : B ≤ w.heap.size) (B0 : Nat) (w0 : World) (hb : Below B0 w0 w) (hB0 : B0 ≤ B)
    (h : ∀ A' c' w', Own w' B (.slice A' n c') T → Below B0 w0 w' → n ≤ c' → (A' = none → c' = 0) → w.grownBy w' v.ownBlock → wpList Try.prog ops Q rest (a.put o.dst (.slice A' n c')) w') : wpList Try.prog ops Q (o :: rest) a w := by
  subst hT hn
  refine Coin.app_any hgd s x ho B v l r A m c Bx hs hx hown hr hm hA (by rw [List.length_append] at hlen; exact hlen) hB B0 w0 hb hB0 fun v' w' h1 h2 h3 => ?_
  have h1' := h1
  obtain ⟨A', c', rfl, _, h4, h5⟩ := h1'.form
  exact h A' c' w' h1 h2 h4 h5 h3
set_option maxHeartbeats 1000000 in
set_option maxRecDepth 100000 in
theorem walk (a0 : Option Addr) (len0 cap0 : Nat) (z0 : List (List UInt8)) (a1 : Option Addr) (len1 cap1 : Nat) (z1 : List Int) (w : World) (w0 : IsMat w a0 len0 cap0 z0) (w1 : IsRow .u8 w a1 len1 cap1 z1) :
    Calls Try.prog 4 #[.slice a0 len0 cap0, .slice a1 len1 cap1] w fun e w' => e = .returned (.bool true) ∧ Below w.heap.size w w' := by
  obtain ⟨hl1, hl2, hl3, hl4, M, hl5⟩ := w0
  obtain ⟨jk, hj1, hj2, hj3, RJ, hjn⟩ := bytes_of w1
  clear w1
  unfold maxLen at hl3 hj2
  have cs : ∀ W, Below w.heap.size w W → Calls Try.prog 12 #[.slice a0 len0 cap0] W fun e w' => e = .returned (.bool (few z0)) ∧ W = w' := fun W h => by
    rw [hl1]; exact short_any a0 cap0 w.heap.size z0 W (by unfold maxLen; omega) (M.below h (Nat.le_refl _))
  by_cases hf : few z0 = false
  · rw [hf] at cs
    clear hl1 hl5 M hj1 RJ
    go_enter Try.func4, Try.ntmps4
    go_wp2_with fail
    refine (awake_any _).mono ?_
    rintro e w1 ⟨rfl, h1⟩
    go_wp2_with fail
    refine (cs _ h1).mono ?_
    rintro e w' ⟨rfl, rfl⟩
    go_wp2_with fail
    refine (awake_any _).mono ?_
    rintro e w2 ⟨rfl, h2⟩
    go_wp2_with fail
    go_ret
    exact ⟨rfl, h1.trans (h2.mono h1.size)⟩
  have hf : few z0 = true := by simpa using hf
  rw [hf] at cs
  by_cases hjl : 100 < len1
  · have hjl' : (100 : Int) < len1 := by omega
    clear hl1 hl5 M hj1 RJ hjl
    go_enter Try.func4, Try.ntmps4
    go_wp2_with fail
    refine (awake_any _).mono ?_
    rintro e w1 ⟨rfl, h1⟩
    go_wp2_with fail
    refine (cs _ h1).mono ?_
    rintro e w' ⟨rfl, rfl⟩
    go_wp2_with fail
    refine (awake_any _).mono ?_
    rintro e w2 ⟨rfl, h2⟩
    go_wp2_with fail
    go_ret
    exact ⟨rfl, h1.trans (h2.mono h1.size)⟩
  have hjl' : ¬ (100 : Int) < len1 := by omega
  obtain ⟨h200, h12⟩ := (few_iff z0).1 hf
  have hsm := packs_take_small z0 h200 h12
  rw [← hl1] at h12
  have HN := Lib.hid hl1
  have cp : ∀ W (k : Nat) (A : Option Addr) (c : Nat) (hk : k < z0.length), Below w.heap.size w W → (A = none → c = 0) → Rd w w.heap.size A z0[k] → Calls Try.prog 10 #[.int .u8 (k : Int), .slice A z0[k].length c] W (Coin.CoinOwn W (pack (UInt8.ofNat k) z0[k])) := fun W k A c hk h hA R => by
    have h1 := h200 z0[k] (List.getElem_mem hk)
    have h2 := rpack_any (UInt8.ofNat k) A c z0[k] W (by omega) ((R.below h (Nat.le_refl _)).more h.size) hA
    have h3 : (UInt8.ofNat k).toNat = k := by rw [UInt8.toNat_ofNat']; have := HN.out; omega
    rw [h3] at h2
    exact h2
  have HSM := Lib.hid hsm
  have HTP := Lib.hid (packs_take z0)
  have HM := Lib.hid M
  have CP := Lib.hid cp
  have HJ := Lib.hid (And.intro hj1 RJ)
  clear hf hsm h200 hl1 hl5 cp M hj1 RJ
  go_enter Try.func4, Try.ntmps4
  go_wp2_with fail
  refine (awake_any _).mono ?_
  rintro e wa ⟨rfl, ha⟩
  go_wp2_with fail
  refine (cs _ ha).mono ?_
  rintro e w' ⟨rfl, rfl⟩
  clear cs
  go_wp2_with fail
  go_loopw [5, 6] (fun v i wr => ∃ k : Nat, k ≤ len0 ∧ i = .int .i64 k ∧ Own wr w.heap.size v (packs 0 (z0.take k)) ∧ Below w.heap.size w wr) (fun _ i _ => len0 - (intOf i).toNat)
  case atStart => exact ⟨0, by omega, rfl, Coin.Own.nil _ _, ha⟩
  case round =>
    obtain ⟨k, hk, rfl, O, B⟩ := hrel
    by_cases hlt : k < len0
    · have hkl : k < z0.length := by rw [← HN.out]; exact hlt
      obtain ⟨x, hx, _, hc⟩ := HM.out (by omega)
      obtain ⟨A', c', kc, k2, k3, k4⟩ := hc k hkl
      have kc := (B.cell (by rw [Coin.block_add]; omega)).trans kc
      have c := CP.out wr k A' c' hkl B k3 k4
      have hlt' : (k : Int) < len0 := by omega
      have hw : IntKind.u8.wrap (k : Int) = k := by rw [IntKind.wrap_u8]; omega
      have hT := HTP.out k hkl
      have hsm := HSM.out (k + 1)
      clear hc k4 k2
      subst hx
      obtain ⟨T, hT0⟩ : ∃ T, T = packs 0 (z0.take (k + 1)) := ⟨_, rfl⟩
      rw [← hT0] at hT hsm
      have HT0 := Lib.hid hT0
      clear hT0
      generalize packs 0 (z0.take k) = P at *
      generalize pack (UInt8.ofNat k) z0[k] = q at *
      generalize z0[k].length = y at *
      obtain ⟨nT, hnT⟩ : ∃ nT, nT = T.length := ⟨_, rfl⟩
      have hnT2 : nT ≤ 1000000 := by omega
      rw [← hnT] at hsm
      have HT := Lib.hid hT
      have HNT := Lib.hid hnT
      have HC := Lib.hid c
      clear hT hnT c hsm
      go_wp2_with (first
        | (go_at_call 10; (with_reducible refine HC.out.mono ?_); rintro e w2 ⟨v2, rfl, O2, B2⟩; have b2 := B.trans (B2.mono B.size); have s2 := b2.size; have OP2 := O.kept B2; obtain ⟨A2, c2, hv2, R2, hc2, hA2⟩ := O2.form; subst hv2; obtain ⟨n2, hn2⟩ : ∃ n2, n2 = q.length := ⟨_, rfl⟩; rw [← hn2] at hc2 ⊢; have HN2 := Lib.hid hn2; clear hn2 O2)
        | (at_builtin; (with_reducible refine app_q rfl (.tmp 34) (.tmp 41) rfl w.heap.size u5 P q A2 n2 c2 w2.heap.size T nT rfl rfl OP2 R2 HN2.out hA2 HT.out HNT.out hnT2 s2 w.heap.size w b2 (Nat.le_refl _) ?_); intro A3 c3 w3 O3 b3 hc3 hA3 G3))
      exact ⟨⟨k + 1, by omega, by simp, by rw [← HT0.out]; exact O3, b3⟩, by simp [intOf]; omega⟩
    · obtain rfl : k = len0 := by omega
      have hlt' : ¬ (k : Int) < k := by omega
      have hkz : z0.take k = z0 := List.take_of_length_le (by rw [← HN.out]; exact Nat.le_refl _)
      have hsm := HSM.out k
      rw [hkz] at O hsm
      obtain ⟨T, hT⟩ : ∃ T, T = packs 0 z0 ++ jk := ⟨_, rfl⟩
      obtain ⟨nT, hnT⟩ : ∃ nT, nT = T.length := ⟨_, rfl⟩
      have hn9 : nT ≤ 4000 := by rw [hnT, hT, List.length_append]; have := HJ.out.1; omega
      have RJ := HJ.out.2.below B (Nat.le_refl _)
      have hj1 := HJ.out.1
      have HT := Lib.hid hT
      have HNT := Lib.hid hnT
      have hnT2 : nT ≤ 1000000 := by omega
      generalize packs 0 z0 = P at *
      have HJ1 := Lib.hid hj1
      have hB := B.size
      clear hT hnT hj1 hkz hsm
      go_wp2_with (first
        | (at_builtin; (with_reducible refine app_q rfl (.tmp 43) (.tmp 44) rfl w.heap.size u5 P jk a1 len1 cap1 w.heap.size T nT rfl rfl O RJ HJ1.out hjn HT.out HNT.out hnT2 hB w.heap.size w B (Nat.le_refl _) ?_); intro A3 c3 w3 O3 b3 hc3 hA3 G3))
      have R3 : Rd w3 w3.heap.size A3 T := by
        obtain ⟨A, c, e, R, _, _⟩ := O3.form
        injection e with e1 e2 e3
        subst e1; exact R
      have cS := scan_any A3 c3 w3.heap.size T w3 (by rw [← HNT.out]; omega) (by rw [← HNT.out]; exact hc3) hA3 (Nat.le_refl _) R3
      rw [← HNT.out] at cS
      refine cS.mono ?_
      rintro e ws ⟨v, xs, b, er, rfl, I, h1, h2, BS⟩
      obtain ⟨A6, c6, hv, hc6, _⟩ := I.form
      subst hv
      have R4 := R3.below BS (Nat.le_refl _)
      have CC : Hid (∀ (W : World) (a : Nat), a ≤ nT → Below ws.heap.size ws W → Calls Try.prog 14 #[.slice A3 nT c3, .int .i64 (a : Int)] W (RoneSaid W (T.drop a) a)) := fun W a ha hW => by
        have h := rone_any A3 c3 w3.heap.size a T W (by rw [← HNT.out]; omega) (by rw [← HNT.out]; exact hc3) hA3 (by rw [← HNT.out]; exact ha) (Nat.le_trans BS.size hW.size) (R4.below hW BS.size)
        rw [← HNT.out] at h
        exact h
      have hbn := (chain_le T _ 0 b (Nat.zero_le _) h1).2
      rw [← HNT.out] at hbn
      have herr : er ≤ 6 := by
        rcases h2 with ⟨_, h⟩ | ⟨_, h, _⟩
        · omega
        · rw [← h]; exact err_le _
      have hxl := chain_length T _ 0 b (Nat.zero_le _) h1
      rw [List.length_map] at hxl
      have HI0 := Lib.hid I
      have HE := Lib.hid h2
      have H1 := Lib.hid h1
      obtain ⟨nx, hnx⟩ : ∃ nx, nx = xs.length := ⟨_, rfl⟩
      rw [← hnx] at hc6 hxl
      simp only [← hnx]
      have HI : Hid (Items ws w3.heap.size (.slice A6 nx c6) T xs) := by rw [hnx]; exact I
      have HNX := Lib.hid hnx
      have bs := b3.trans (BS.mono b3.size)
      have HR := Lib.hid R4
      clear I h1 h2 cS O3 R3 R4 G3 HI0 hnx RJ O
      go_wp2_with fail
      go_loopw [10, 11] (fun wh n wr2 => ∃ j a : Nat, a ≤ nT ∧ wh = .int .i64 a ∧ n = .int .i64 j ∧ Hid (j ≤ nx ∧ chain T a ((xs.map (·.1)).drop j) b) ∧ Below ws.heap.size ws wr2) (fun wh _ _ => nT - (intOf wh).toNat)
      case atStart => exact ⟨0, 0, Nat.zero_le _, rfl, rfl, ⟨Nat.zero_le _, H1.out⟩, Below.refl _ _⟩
      case round =>
        obtain ⟨j, a, ha, rfl, rfl, HJC, BW⟩ := hrel
        by_cases hlt : a < nT
        · have hlt' : (a : Int) < nT := by omega
          have hal : a < T.length := by rw [← HNT.out]; exact hlt
          have c := CC.out wr a ha BW
          obtain ⟨hjx0, hch0⟩ := HJC.out
          have hnx := chain_next T _ a b er hal hch0 HE.out
          by_cases he : err (T.drop a) = 0
          · obtain ⟨ys, hys, hch⟩ := hnx.2 he
            have hjx : j < xs.length := by
              have := congrArg List.length hys
              simp only [List.length_drop, List.length_map, List.length_cons] at this
              omega
            have hxa : xs[j].1 = a := by
              have := congrArg (fun l : List Nat => l[0]?) hys
              simpa [List.getElem?_drop, hjx] using this
            have hyd : (xs.map (·.1)).drop (j + 1) = ys := by
              rw [← List.drop_drop, hys]; rfl
            have hsz := (err_ok _ he).2.2.1
            rw [List.length_drop, ← HNT.out] at hsz
            obtain ⟨q, hq, _⟩ := HI.out.at j hjx
            obtain ⟨ad, had, _, _⟩ := HR.out (by omega)
            have hkd0 := ((T.drop a).getD (wid (T.drop a)) 0).toNat_lt
            obtain ⟨x1, hx1⟩ : ∃ x1, x1 = a + wid (T.drop a) + 1 := ⟨_, rfl⟩
            obtain ⟨ct, hct⟩ : ∃ ct, ct = cnt (T.drop a) := ⟨_, rfl⟩
            obtain ⟨x2, hx2⟩ : ∃ x2, x2 = x1 + ct := ⟨_, rfl⟩
            obtain ⟨kd, hkd⟩ : ∃ kd : Int, kd = ((kind (T.drop a)).toNat : Int) := ⟨_, rfl⟩
            obtain ⟨g, hg⟩ : ∃ g, g = xs[j].2 := ⟨_, rfl⟩
            obtain ⟨SB, hSB⟩ : ∃ SB, SB = str (body (T.drop a)) := ⟨_, rfl⟩
            obtain ⟨x0, hx0⟩ : ∃ x0, x0 = a + wid (T.drop a) := ⟨_, rfl⟩
            have hse : size (T.drop a) = x2 + 4 - a := by unfold size; omega
            rw [hse] at hsz hch
            have hb : body (T.drop a) = (T.drop x1).take ct := by unfold body; rw [← hct, List.drop_drop, hx1]; rfl
            have hkT : ∃ h : x0 < T.length, kd = ((T[x0]).toNat : Int) := by
              have h : x0 < T.length := by rw [← HNT.out]; omega
              refine ⟨h, ?_⟩
              rw [hkd]; unfold kind
              rw [List.getD, List.getElem?_drop, ← hx0, List.getElem?_eq_getElem h]; rfl
            have c := Calls.mono' c (Q' := fun e w' => e = .returned (.tuple #[.int .i64 (x1 : Nat), .int .i64 (x2 : Nat), .int .i64 0]) ∧ Below wr.heap.size wr w') (fun e w' h => by
              refine ⟨?_, h.2.2⟩
              rw [hx2, hx1, hct]; exact h.2.1 he)
            subst hq had
            have hbt := between_any ad nT c3 x1 x2 (by omega) (by omega) (by omega)
            rw [show x2 - x1 = ct by omega] at hbt
            obtain ⟨c4, hc4⟩ : ∃ c4, c4 = c3 - x1 := ⟨_, rfl⟩
            rw [← hc4] at hbt
            obtain ⟨X, hX⟩ : ∃ X, X = ad.add x1 := ⟨_, rfl⟩
            rw [← hX] at hbt
            have AT : Hid (∀ W, Below ws.heap.size ws W → (W.cell? ⟨q, j * 4, none⟩ = some (.int .u8 kd) ∧ W.cell? ⟨q, j * 4 + 1, none⟩ = some (.slice (some ⟨g, 0, none⟩) ct ct) ∧ W.cell? ⟨q, j * 4 + 2, none⟩ = some (.int .i64 (a : Int)) ∧ W.cell? ⟨q, j * 4 + 3, none⟩ = some (.int .i64 ((x2 : Int) + 4)) ∧ W.cell? (ad.add x0) = some (.int .u8 kd)) ∧
                ∀ n, (convert 22 9 (.slice (some ⟨g, 0, none⟩) ct ct)).run Try.prog (W.drewN n) = .ok (.string SB) (W.drewN n) ∧ (convert 22 9 (.slice (some X) ct c4)).run Try.prog (W.drewN n) = .ok (.string SB) (W.drewN n)) := fun W hW => by
              have I4 := HI.out.kept hW
              obtain ⟨q', e, d0, d1, d2, d3⟩ := I4.at j hjx
              injection e with e; injection e with e
              subst e
              rw [hxa] at d0 d1 d2 d3
              rw [← hkd] at d0
              rw [← hct, ← hg] at d1
              rw [hse] at d3
              have hR := HR.out.below hW BS.size
              obtain ⟨ad', e', _, hcl⟩ := hR (by omega)
              injection e' with e'
              subst e'
              obtain ⟨hT0, hkT⟩ := hkT
              refine ⟨⟨d0, d1, d2, ?_, ?_⟩, fun n => ⟨?_, ?_⟩⟩
              · rw [d3]; congr 2; omega
              · rw [hcl x0 hT0, hkT]; rfl
              · have r := ((I4.row xs[j] (List.getElem_mem hjx)).1).rd
                rw [hxa, ← hg] at r
                rw [hSB]
                refine Coin.conv_any (w := W.drewN n) (r.keep fun _ _ => rfl) ct ct ?_
                rw [hb, List.length_take, List.length_drop, ← HNT.out]; omega
              · have r := ((hR.cut x1).take ct)
                rw [hSB, hb]
                rw [Option.map_some, ← hX] at r
                refine Coin.conv_any (w := W.drewN n) (r.keep fun _ _ => rfl) ct c4 ?_
                rw [List.length_take, List.length_drop, ← HNT.out]; omega
            have HC := Lib.hid c
            have HCH := Lib.hid (And.intro hyd hch)
            have hjn' : (j : Int) < nx := by rw [HNX.out]; omega
            have hjn2 : j < nx := by rw [HNX.out]; omega
            have hx01 : (x1 : Int) - 1 = (x0 : Int) := by omega
            have hx02 : IntKind.i64.wrap (x0 : Int) = (x0 : Int) := by rw [IntKind.wrap_i64]; omega
            have hx24 : IntKind.i64.wrap ((x2 : Int) + 4) = (x2 : Int) + 4 := by rw [IntKind.wrap_i64]; omega
            have hjn3 : ¬ nx ≤ j := by omega
            have hx2l : x2 + 4 ≤ nT := by omega
            have hx1l : x1 ≤ 5000 := by omega
            have hx1p : 1 ≤ x1 := by omega
            have hx0l : (x0 : Int) < nT := by omega
            have hx12 : a + 5 ≤ x2 + 4 := by omega
            clear hX hkT hb hse hSB hg hkd hct hkd0 hys hch hxa hyd hsz hnx hch0 hjx0 he c hx1 hx2 hx0 hc4
            go_wp2_with (first
              | (go_at_call 14; (with_reducible refine HC.out.mono ?_); rintro e w4 ⟨rfl, B4⟩))
            have b4 := BW.trans (B4.mono BW.size)
            obtain ⟨⟨d0, d1, d2, d3, d4⟩, hcv⟩ := AT.out w4 b4
            have hcv1 := fun n => (hcv n).1
            have hcv2 := fun n => (hcv n).2
            go_quiet (fail)
            go_wp2_with fail
            clear AT HC d0 d1 d2 d3 d4 hcv hcv1 hcv2
            have hch4 := HCH.out.2
            rw [show a + (x2 + 4 - a) = x2 + 4 by omega] at hch4
            exact ⟨⟨j + 1, x2 + 4, hx2l, by simp, by simp, ⟨by omega, by rw [HCH.out.1]; exact hch4⟩, b4.trans ⟨rfl, rfl, rfl, Nat.le_refl _, fun _ _ => rfl⟩⟩, by simp [intOf]; omega⟩
          · obtain ⟨hnil, hba, hee⟩ := hnx.1 he
            have hjn : j = nx := by
              have := congrArg List.length hnil
              simp only [List.length_drop, List.length_map, List.length_nil] at this
              rw [← HNX.out] at this
              omega
            have c := Calls.mono' c (Q' := fun e w' => e = .returned (.tuple #[.int .i64 0, .int .i64 0, .int .i64 (er : Nat)]) ∧ Below wr.heap.size wr w') (fun e w' h => ⟨by rw [hee]; exact h.1 he, h.2.2⟩)
            rw [← hee] at he
            have hne : ((er : Int) != 0) = true := by simp; omega
            have HC := Lib.hid c
            clear c hnil hee hnx hch0 hjx0 HJC
            subst hba hjn
            go_wp2_with (first
              | (go_at_call 14; (with_reducible refine HC.out.mono ?_); rintro e w4 ⟨rfl, B4⟩))
            have b4 := BW.trans (B4.mono BW.size)
            go_ret
            exact ⟨rfl, bs.trans (b4.mono bs.size)⟩
        · obtain rfl : a = nT := by omega
          obtain ⟨hjx0, hch0⟩ := HJC.out
          obtain ⟨hnil, hba, hee⟩ := chain_end T _ a b er HNT.out hch0 HE.out
          have hjn : j = nx := by
            have := congrArg List.length hnil
            simp only [List.length_drop, List.length_map, List.length_nil] at this
            rw [← HNX.out] at this
            omega
          have hlt' : ¬ (a : Int) < a := by omega
          clear hnil hch0 hjx0 HJC
          subst hba hee hjn
          go_wp2_with fail
          go_ret
          exact ⟨rfl, bs.trans (BW.mono bs.size)⟩

set_option maxRecDepth 100000 in
theorem lifted (os : Os) (started : os.Started) (H : Type) (enc : TypeId × Value → H) :
    ReturnsInHanded {} Try.checked os 4 .any (Rows.frameScansSpec.pre6 enc Try.prog Try.f4 Rows.frameScansRow.domain false) (Rows.frameScansSpec.post enc Try.prog Try.f4 false true false false) := by
  refine returnsInHanded_of_change (C := Try.checked) own started (by kernel_rfl) Try.func4
    (ChangeSpec.witness6 (enc := enc) (C := Try.checked) false ⟨#[], #[.slice none 0 0, .slice none 0 0], []⟩ 8 (by kernel_rfl) (by kernel_rfl) (by kernel_rfl) (by kernel_rfl)) ?_
  intro W base args ds gs before hval0 hW hcnd _
  have hval : ∀ (j : Nat) t v, Try.f4.params[j]? = some t → args[j]? = some v → Value.okWide Try.prog W .any base t v := hval0
  have hW' := hW
  obtain ⟨p, q, hA0, hV, rfl, hfz, hnd⟩ := hW
  have hA : DataW.TrodAll enc Try.prog W 0 (fun _ => true) true Try.f4.params.toList args.toList ds p := hA0
  rw [Try.params4] at hA hval
  obtain ⟨v0, vs0, d0, ds0, p0, q0, hargs, rfl, rfl, h0, r0⟩ := trodAll_cons hA
  obtain ⟨v1, vs1, d1, ds1, p1, q1, rfl, rfl, rfl, h1, r1⟩ := trodAll_cons r0
  obtain ⟨rfl, rfl, rfl⟩ := trodAll_nil r1
  obtain rfl : args = #[v0, v1] := by cases args; simp_all
  obtain ⟨rfl, rfl⟩ := trodVars_none hV
  obtain ⟨a0, len0, cap0, rfl⟩ := okWide_slice Try.underlying32 (hval 0 32 v0 rfl rfl)
  have k0 := h0
  have lt0 : ∀ x ∈ p0, x.block < W.heap.size := by obtain ⟨m, hm⟩ := k0; exact DataW.trod_lt m _ _ _ hm
  obtain ⟨z0, w0⟩ : ∃ zs, IsMat W a0 len0 cap0 zs := by
    obtain ⟨fuel, hf⟩ := h0
    rcases Go.Deep.open_int_rows Try.underlying32 Try.underlying22 Try.underlying5 (by kernel_rfl) (by kernel_rfl) hf with ⟨hcs, _⟩ | ⟨x, l, c, A, L, C, Z, hcs, _, hl, hm, _, hrow⟩
    · simp [Value.cells] at hcs
      obtain ⟨rfl, rfl, rfl⟩ := hcs
      exact ⟨[], mat_nil W⟩
    · simp [Value.cells] at hcs
      obtain ⟨rfl, rfl, rfl⟩ := hcs
      exact mat_of hl hm hrow
  obtain ⟨a1, len1, cap1, rfl⟩ := okWide_slice Try.underlying22 (hval 1 22 v1 rfl rfl)
  have k1 := h1
  have lt1 : ∀ x ∈ p1, x.block < W.heap.size := by obtain ⟨m, hm⟩ := k1; exact DataW.trod_lt m _ _ _ hm
  obtain ⟨z1, w1⟩ : ∃ zs, IsRow .u8 W a1 len1 cap1 zs := by
    obtain ⟨fuel, hf⟩ := h1
    rcases open_ints Try.underlying22 Try.underlying5 (by kernel_rfl) hf with ⟨hcs, _⟩ | ⟨x, l, c, zs, hcs, _, hl, hm, hz, _, hcell, hwz⟩
    · simp [Value.cells] at hcs
      obtain ⟨rfl, rfl, rfl⟩ := hcs
      exact ⟨[], .inl ⟨rfl, rfl, rfl, rfl⟩⟩
    · simp [Value.cells] at hcs
      obtain ⟨rfl, rfl, rfl⟩ := hcs
      exact ⟨zs, .inr ⟨_, rfl, hl, hm, by simpa using hz, hcell, hwz⟩⟩
  clear hA0 hval0
  refine (walk a0 len0 cap0 z0 a1 len1 cap1 z1 W w0 w1).mono fun e W' ⟨he, bel⟩ => ?_
  subst he
  exact ⟨_, rfl, _, _, _, [], _, [], hW', trodAll_mk1 (shut_bool Try.underlying4 _), (trodAll_cons_mk (Below.trod laidOut (by kernel_rfl) (of_decide_eq_true (by kernel_rfl)) k0 bel lt0) (trodAll_cons_mk (Below.trod laidOut (by kernel_rfl) (of_decide_eq_true (by kernel_rfl)) k1 bel lt1) trodAll_mk0)), rfl, bel.frame _, fun h => by cases h⟩

theorem over : Rows.frameScansRow.holds Try.pinned (OpenSpec.ofChange Rows.frameScansSpec) :=
  OpenClaim.holds_of_wide 4 Try.f4 rfl rfl rfl rfl rfl rfl rfl ⟨rfl, rfl, rfl, rfl, rfl⟩ rfl rfl rfl rfl rfl (by kernel_rfl) Try.func4 (by kernel_rfl)
    (of_decide_eq_true (by kernel_rfl)) (by unfold Func.isWrapper; first | (rw [if_pos (by decide +kernel)]; kernel_rfl) | (rw [if_neg (by decide +kernel)]; exact ⟨rfl, rfl⟩))
    (fun os started H enc _ => lifted os started H enc)

theorem proved : Rows.FrameScansSaid := over
#print axioms proved
end Go.Proofs.Ytjhkgdgbmmpegaa.frameScans
