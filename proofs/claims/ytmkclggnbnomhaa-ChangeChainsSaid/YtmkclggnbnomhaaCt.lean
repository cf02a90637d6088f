/- Contract: a change that follows another one, as bytes: the document's own answer. -/
import Derived.Test.YtmkclggnbnomhaaCr
import Derived.Test.YtmkclggnbnomhaaHs
import Derived.Deep.DeepCutAuto
import Derived.Deep.CutBlock
import Derived.Deep.RegionHeld3
import Derived.StillTailTactics
namespace Go.Proofs.Ytmkclggnbnomhaa.Chg
open Coin
open Go.ChangeShapes Go.WideShapes Go.ChangeAt Go.RowKit

theorem own_low {w : World} {B B1 : Nat} {v : Value} {l : List UInt8} (h : Own w B v l) (hb : B1 ≤ B) : Own w B1 v l :=
  ⟨h.1, h.2.imp id fun ⟨g, cap, cur, h1, h2, h3⟩ => ⟨g, cap, cur, h1, Nat.le_trans hb h2, h3⟩⟩
theorem Bx.own {w0 w w' : World} {x y : Array Value} {r : Option Nat} (h : Bx w0 w x y) (G : w.grownBy w' r) (hr : ∀ k, r = some k → w0.heap.size + 1 < k) : Bx w0 w' x y :=
  ⟨(G.block _ (Array.getElem?_eq_some_iff.1 h.r0).1 (fun e => by have := hr _ e.symm; omega)).trans h.r0, (G.block _ (Array.getElem?_eq_some_iff.1 h.r1).1 (fun e => by have := hr _ e.symm; omega)).trans h.r1, h.be.grown G h.be.size (fun k e => by have := hr k e; omega)⟩
theorem step_app1 {w : World} {ops : Array Oper} {o : Oper} {a : Act} {K : Act → World → Prop} {Q : Exit → Act → World → Prop} {E : Prop} (hg : o.guard = none) (s x : Operand)
    (hop : o.op = .call { callee := .builtin .append, args := #[s, x], argTypes := #[35, 35] }) (B : Nat) (v : Value) (l r : List UInt8) (A : Option Addr) (m c Bx : Nat) (hs : a.eval s = v) (hx : a.eval x = .slice A m c) (hown : Own w B v l) (hr : Rd w Bx A r) (hm : m = r.length)
    (hA : A = none → c = 0) (hl : l.length + r.length ≤ 1000000) (hB : B ≤ w.heap.size)
    (hK : ∀ v' w', Own w' B v' (l ++ r) → w.grownBy w' v.ownBlock → K (a.put o.dst v') w') : if Region.wanted o (yielded ops a.tmps) = true then Oper.wp Try.prog o a w K Q else E := by
  obtain ⟨i0, hi, hz0, hz1, hz2⟩ := info_parts info5
  have hw : Region.wanted o (yielded ops a.tmps) = true := by simp [Region.wanted, hg]
  rw [if_pos hw]
  subst hm
  cases A with
  | none =>
    obtain rfl : r = [] := by
      rcases r with _ | ⟨b, r⟩
      · rfl
      · obtain ⟨ad, h, _⟩ := hr (by simp); cases h
    obtain rfl := hA rfl
    have hrun := run_append_owned_none (P := Try.prog) (w := w) B 35 o.type 5 i0 1 Try.underlying35 hi v l.length (l.map b8) hown
    unfold Oper.wp
    simp [execOp, hop, resolve, invoke, builtin, hs, hx, hrun, Result.andThen]
    exact hK v w (by simpa using hown) (World.grownBy.refl w _)
  | some ad =>
    have hc : ∀ j u, (r.map b8)[j]? = some u → w.cell? (ad.add j) = some u := by
      intro j u hj
      by_cases h0 : 0 < r.length
      · obtain ⟨ad', e, h⟩ := hr.src h0
        injection e with e
        subst e
        exact h j u hj
      · obtain rfl : r = [] := List.eq_nil_of_length_eq_zero (by omega)
        simp at hj
    obtain ⟨v', w', hrun, r1, r2, _⟩ := run_append_own (P := Try.prog) (w := w) B 35 o.type 5 i0 _ 1 1 Try.underlying35 hi hz0 hz1 hz2 rfl (by decide) v l.length (l.map b8) hown ad r.length c (r.map b8) (by simp) hc (one_b8 r) (by unfold maxLen; omega) (by omega) hB
    unfold Oper.wp
    simp [execOp, hop, resolve, invoke, builtin, hs, hx, hrun, Result.andThen]
    refine hK v' w' ?_ r2
    simpa [Own] using r1
set_option maxRecDepth 8000 in
set_option maxHeartbeats 16000000 in
theorem renc_true (l c : C) (hg : c.gone = true) (hl : l.Ok) (hc : c.Ok) (ha : l.After c) (w : World) : Calls Try.prog 11 #[.agg l.cells, .agg c.cells] w (CoinOwn w (l.enc c)) := by
  have hso := same4 l c hc.2.2.2.1
  have hhd := head_lt l c hc.2.2.2.1
  have hO := begun_len c.addr c.len hc.2.2.2.1
  have hP := begun_len l.addr l.len hl.2.2.2.1
  have hel := enc_len l c hc.2.2.2.1
  have cO := fun W => rbegun_any c.addr c.len hc.2.2.1 hc.2.2.2.1 W
  have cP := fun W => rbegun_any l.addr l.len hl.2.2.1 hl.2.2.2.1 W
  unfold C.same at hso
  unfold C.head C.same at hhd
  unfold C.enc C.tail C.head C.same at hel ⊢
  unfold C.cells
  obtain ⟨no, time, g, a, n, via, mt, sq⟩ := l
  obtain ⟨no', time', g', a', n', via', mt', sq'⟩ := c
  obtain ⟨l1, l2, l3, l4, l5, l6, l7, l8, l9⟩ := hl
  obtain ⟨c1, c2, c3, c4, c5, c6, c7, c8, c9⟩ := hc
  obtain ⟨e1, e2⟩ := ha
  replace hg : g' = true := hg
  subst hg
  obtain ⟨rfl, rfl, rfl⟩ := c9 rfl
  clear c9
  have HL9 := Lib.hid l9
  clear l9
  try dsimp only at *
  simp only [if_true] at hhd hel ⊢
  obtain ⟨dt, hdt0⟩ : ∃ dt, dt = time' - time := ⟨_, rfl⟩
  rw [← hdt0] at hel ⊢
  have hdl : dt < 18446744073709551616 := by omega
  have hdt : (time' : Int) - time = dt := by omega
  clear hdt0 e1 e2
  generalize begun a' n' = O at *
  generalize begun a n = P at *
  obtain ⟨kO, hkO⟩ : ∃ k, O.length = k := ⟨_, rfl⟩
  obtain ⟨kP, hkP⟩ : ∃ k, P.length = k := ⟨_, rfl⟩
  unfold BegunSaid at cO cP
  rw [hkO] at cO
  rw [hkP] at cP
  rw [hkO] at hO
  rw [hkP] at hP
  have hkO4 : kO ≤ 4 := by omega
  have hkP4 : kP ≤ 4 := by omega
  have HKO := Lib.hid hkO
  have HKP := Lib.hid hkP
  obtain ⟨s, hs⟩ : ∃ s, s = same P O := ⟨_, rfl⟩
  rw [← hs] at hso hhd hel ⊢
  have hsO : s ≤ kO := by omega
  have HS := Lib.hid hs
  obtain ⟨hd, hhd2⟩ : ∃ h, h = 16 * n' + 2 * s + 1 := ⟨_, rfl⟩
  rw [← hhd2] at hhd hel ⊢
  have HH := Lib.hid hhd2
  have HB := Bx.new w #[.int .u64 no, .int .u64 time, .bool g, .int .u32 a, .int .u8 n, .int .i64 via, .int .u16 mt, .int .u16 sq] #[.int .u64 no', .int .u64 time', .bool true, .int .u32 a', .int .u8 n', .int .i64 0, .int .u16 0, .int .u16 0]
  have HEL := Lib.hid hel
  obtain ⟨p0, p1, p2, p3, p4, p5, p6, p7⟩ := row8 HB.r0
  obtain ⟨q0, q1, q2, q3, q4, q5, q6, q7⟩ := row8 HB.r1
  have HST := Lib.hid (fun k (hk : k ≤ s) => show k < s ↔ k < kO ∧ k < kP ∧ O.getD k 0 = P.getD k 0 by rw [hs, same_comm] at hk ⊢; rw [← hkO, ← hkP]; exact same_step O P k hk)
  clear hkO hkP hs hhd2 hel hO hP
  go_enter Try.func11, Try.ntmps11
  go_upto_block 0 with (first
    | (go_at_call 26; (with_reducible refine (cO _).mono ?_); rintro e w1 ⟨g1, hg1, rfl, RO, B1⟩; clear cO; clear p0 p1 p2 p3 p4 p5 p6 p7 q0 q1 q2 q3 q4 q5 q6 q7; have HB := HB.step B1; obtain ⟨p0, p1, p2, p3, p4, p5, p6, p7⟩ := row8 HB.r0; obtain ⟨q0, q1, q2, q3, q4, q5, q6, q7⟩ := row8 HB.r1; have hg1 : w.heap.size ≤ g1 := (by simp at hg1; omega))
    | (go_at_call 26; (with_reducible refine (cP _).mono ?_); rintro e w2 ⟨g2, hg2, rfl, RP, B2⟩; clear cP; clear p0 p1 p2 p3 p4 p5 p6 p7 q0 q1 q2 q3 q4 q5 q6 q7; have HB := HB.step B2; obtain ⟨p0, p1, p2, p3, p4, p5, p6, p7⟩ := row8 HB.r0; obtain ⟨q0, q1, q2, q3, q4, q5, q6, q7⟩ := row8 HB.r1; have RO := (RO.below B2 (Nat.le_refl _)).more B2.size))
  clear p0 p1 p2 p3 p4 p5 p6 p7 q0 q1 q2 q3 q4 q5 q6 q7
  have HBS := HB.be.size
  go_cut [7] (fun v7 wx => v7 = .int .i64 s ∧ Below w2.heap.size w2 wx)
  case first =>
    go_wp2_with (fail)
    go_loopw [7] (fun i wr => ∃ k : Nat, k ≤ s ∧ i = .int .i64 k ∧ Below w2.heap.size w2 wr) (fun i _ => s - (intOf i).toNat)
    case atStart => exact ⟨0, by omega, rfl, Below.refl _ _⟩
    case round =>
      obtain ⟨k, hk, rfl, B0⟩ := hrel
      have st := HST.out k hk
      by_cases h1 : k < kO
      · have d1 : decide ((k : Int) < (kO : Int)) = true := by rw [decide_eq_true_eq]; omega
        by_cases h2 : k < kP
        · have d2 : decide ((k : Int) < (kP : Int)) = true := by rw [decide_eq_true_eq]; omega
          obtain ⟨adA, ea, _, hA⟩ := RO.below B0 (Nat.le_refl _) (by rw [HKO.out]; omega)
          obtain ⟨adB, eb, _, hB⟩ := RP.below B0 (Nat.le_refl _) (by rw [HKP.out]; omega)
          injection ea with ea
          injection eb with eb
          subst ea eb
          have cA := hA k (by rw [HKO.out]; exact h1)
          have cB := hB k (by rw [HKP.out]; exact h2)
          have ex : O.getD k 0 = O[k]'(by rw [HKO.out]; exact h1) := by rw [List.getD_eq_getElem?_getD, List.getElem?_eq_getElem]; rfl
          have ey : P.getD k 0 = P[k]'(by rw [HKP.out]; exact h2) := by rw [List.getD_eq_getElem?_getD, List.getElem?_eq_getElem]; rfl
          rw [← ex] at cA
          rw [← ey] at cB
          rw [zero_add'] at cA cB
          unfold b8 at cA cB
          generalize O.getD k 0 = x at *
          generalize P.getD k 0 = y at *
          clear hA hB ex ey
          by_cases e : x = y
          · have hlt : k < s := st.2 ⟨h1, h2, e⟩
            have eb : ((x.toNat : Int) == (y.toNat : Int)) = true := by rw [e]; simp
            generalize (x.toNat : Int) = X at *
            generalize (y.toNat : Int) = Y at *
            clear st e
            go_wp2
            go_quiet (fail)
            go_wp2
            go_roundw
            case rel => exact ⟨k + 1, by omega, by go_num, bN B0⟩
            case measure => simp [intOf]; omega
          · have hno : ¬ k < s := fun h => e (st.1 h).2.2
            have eb : ((x.toNat : Int) == (y.toNat : Int)) = false := by
              rw [beq_eq_false_iff_ne]; intro h; exact e (UInt8.toNat.inj (by omega))
            obtain rfl : k = s := by omega
            generalize (x.toNat : Int) = X at *
            generalize (y.toNat : Int) = Y at *
            clear st e hno hk
            go_wp2
            go_quiet (fail)
            go_wp2
            go_meet
            case rel => exact ⟨rfl, bN B0⟩
        · have d2 : decide ((k : Int) < (kP : Int)) = false := by rw [decide_eq_false_iff_not]; omega
          have hno : ¬ k < s := fun h => h2 (st.1 h).2.1
          obtain rfl : k = s := by omega
          clear st hno hk
          go_wp2
          go_quiet (fail)
          go_wp2
          go_meet
          case rel => exact ⟨rfl, bN B0⟩
      · have d1 : decide ((k : Int) < (kO : Int)) = false := by rw [decide_eq_false_iff_not]; omega
        have hno : ¬ k < s := fun h => h1 (st.1 h).1
        obtain rfl : k = s := by omega
        clear st hno hk
        go_wp2
        go_quiet (fail)
        go_wp2
        go_meet
        case rel => exact ⟨rfl, bN B0⟩
  case rest =>
    obtain ⟨rfl, BW⟩ := hcut
    generalize wc = wd at *
    have HB := HB.step BW
    obtain ⟨p0, p1, p2, p3, p4, p5, p6, p7⟩ := row8 HB.r0
    obtain ⟨q0, q1, q2, q3, q4, q5, q6, q7⟩ := row8 HB.r1
    have RO := (RO.below BW (Nat.le_refl _)).more BW.size
    have Ba := (Below.refl wd.heap.size wd).alloc (Nat.le_refl _) (.cells #[.int .u64 dt, .int .u64 hd] 26)
    have c27 := coins_any [dt, hd] wd.heap.size (wd.alloc (.cells #[.int .u64 dt, .int .u64 hd] 26)) (by simp) (heap_alloc_new wd _) (by intro z hz; simp only [List.mem_cons, List.not_mem_nil, or_false] at hz; rcases hz with rfl | rfl <;> omega) 2 rfl (by omega)
    have hhd3 : (n' : Int) * 16 + (s : Int) * 2 + 1 = hd := by have := HH.out; omega
    have hcl : (coins [dt, hd]).length + (O.drop s).length ≤ 1000000 := by
      have h1 := coins_len [dt, hd]
      simp only [List.length_cons, List.length_nil, List.length_drop, HKO.out] at h1 ⊢
      omega
    have hlt := HB.lt
    have hce : coins [dt, hd] = coin dt ++ coin hd := by simp [coins]
    have HCE := Lib.hid hce
    clear hce RP
    generalize coins [dt, hd] = Z at *
    go_wp2_with (first
      | (go_at_call 27; (with_reducible refine c27.mono ?_); rintro e w3 ⟨v3, rfl, O3, B3⟩; clear c27; clear p0 p1 p2 p3 p4 p5 p6 p7 q0 q1 q2 q3 q4 q5 q6 q7; have HB := (HB.step Ba).step B3; obtain ⟨p0, p1, p2, p3, p4, p5, p6, p7⟩ := row8 HB.r0; obtain ⟨q0, q1, q2, q3, q4, q5, q6, q7⟩ := row8 HB.r1; have hs3 := HB.be.size; have hsb : w.heap.size ≤ (wd.alloc (.cells #[.int .u64 dt, .int .u64 hd] 26)).heap.size := (by have := ((HB.be.size)); have h5 := BW.size; have h6 := HBS; simp; omega); obtain ⟨AC, hcut, RC, hAC⟩ := cut_any (((RO.below Ba (Nat.le_refl _)).more Ba.size).below B3 (Nat.le_refl _)) kO 4 s HKO.out.symm hkO4 (by simp) hsO)
      | (at_builtin; (with_reducible refine app_any rfl (.tmp 63) (.tmp 66) rfl (wd.alloc (.cells #[.int .u64 dt, .int .u64 hd] 26)).heap.size v3 Z (O.drop s) AC (kO - s) (4 - s) _ rfl rfl O3 RC (by rw [List.length_drop, HKO.out]) hAC hcl B3.size w.heap.size w HB.be hsb ?_)))
    intro v4 w4 O4 B4 G4
    clear p0 p1 p2 p3 p4 p5 p6 p7 q0 q1 q2 q3 q4 q5 q6 q7
    have HB := HB.own G4 (fun j hj => by have := (O3.lt j hj).1; simp at this; omega)
    obtain ⟨p0, p1, p2, p3, p4, p5, p6, p7⟩ := row8 HB.r0; obtain ⟨q0, q1, q2, q3, q4, q5, q6, q7⟩ := row8 HB.r1
    have hZ : Z ++ O.drop s = coin dt ++ (coin hd ++ O.drop s) := by rw [HCE.out, List.append_assoc]
    rw [hZ] at O4
    replace O4 := own_low (B1 := w.heap.size) O4 (by omega)
    clear O3 RC hcut hcl RO hZ B3 HCE
    go_wp2
    go_ret
    exact ⟨v4, rfl, (by simpa [List.append_assoc] using O4), HB.be⟩
set_option maxRecDepth 8000 in
set_option maxHeartbeats 16000000 in
theorem renc_false (l c : C) (hg : c.gone = false) (hl : l.Ok) (hc : c.Ok) (ha : l.After c) (w : World) : Calls Try.prog 11 #[.agg l.cells, .agg c.cells] w (CoinOwn w (l.enc c)) := by
  have hso := same4 l c hc.2.2.2.1
  have hhd := head_lt l c hc.2.2.2.1
  have hO := begun_len c.addr c.len hc.2.2.2.1
  have hP := begun_len l.addr l.len hl.2.2.2.1
  have hel := enc_len l c hc.2.2.2.1
  have cO := fun W => rbegun_any c.addr c.len hc.2.2.1 hc.2.2.2.1 W
  have cP := fun W => rbegun_any l.addr l.len hl.2.2.1 hl.2.2.2.1 W
  unfold C.same at hso
  unfold C.head C.same at hhd
  unfold C.enc C.tail C.head C.same at hel ⊢
  unfold C.cells
  obtain ⟨no, time, g, a, n, via, mt, sq⟩ := l
  obtain ⟨no', time', g', a', n', via', mt', sq'⟩ := c
  obtain ⟨l1, l2, l3, l4, l5, l6, l7, l8, l9⟩ := hl
  obtain ⟨c1, c2, c3, c4, c5, c6, c7, c8, c9⟩ := hc
  obtain ⟨e1, e2⟩ := ha
  replace hg : g' = false := hg
  subst hg
  clear c9
  have HL9 := Lib.hid l9
  clear l9
  try dsimp only at *
  simp only [Bool.false_eq_true, if_false] at hhd hel ⊢
  obtain ⟨dt, hdt0⟩ : ∃ dt, dt = time' - time := ⟨_, rfl⟩
  rw [← hdt0] at hel ⊢
  have hdl : dt < 18446744073709551616 := by omega
  have hdt : (time' : Int) - time = dt := by omega
  clear hdt0 e1 e2
  generalize begun a' n' = O at *
  generalize begun a n = P at *
  obtain ⟨kO, hkO⟩ : ∃ k, O.length = k := ⟨_, rfl⟩
  obtain ⟨kP, hkP⟩ : ∃ k, P.length = k := ⟨_, rfl⟩
  unfold BegunSaid at cO cP
  rw [hkO] at cO
  rw [hkP] at cP
  rw [hkO] at hO
  rw [hkP] at hP
  have hkO4 : kO ≤ 4 := by omega
  have hkP4 : kP ≤ 4 := by omega
  have HKO := Lib.hid hkO
  have HKP := Lib.hid hkP
  obtain ⟨s, hs⟩ : ∃ s, s = same P O := ⟨_, rfl⟩
  rw [← hs] at hso hhd hel ⊢
  have hsO : s ≤ kO := by omega
  have HS := Lib.hid hs
  obtain ⟨hd, hhd2⟩ : ∃ h, h = 16 * n' + 2 * s + 0 := ⟨_, rfl⟩
  rw [← hhd2] at hhd hel ⊢
  have HH := Lib.hid hhd2
  have hv1 : wrap64 ((via' : Int) - via) = (via' : Int) - via := IntWalk.wrap64_in _ ⟨by omega, by omega⟩
  have hv2 : wrap64 ((mt' : Int) - mt) = (mt' : Int) - mt := IntWalk.wrap64_in _ ⟨by omega, by omega⟩
  have hv3 : IntKind.u16.wrap ((sq' : Int) - sq) = (((sq' + 65536 - sq) % 65536 : Nat) : Int) := by rw [IntKind.wrap_u16]; omega
  have hfo1 := fold_lt ((via' : Int) - via) (by omega) (by omega)
  have hfo2 := fold_lt ((mt' : Int) - mt) (by omega) (by omega)
  have HB := Bx.new w #[.int .u64 no, .int .u64 time, .bool g, .int .u32 a, .int .u8 n, .int .i64 via, .int .u16 mt, .int .u16 sq] #[.int .u64 no', .int .u64 time', .bool false, .int .u32 a', .int .u8 n', .int .i64 via', .int .u16 mt', .int .u16 sq']
  obtain ⟨f1, hf1⟩ : ∃ f, f = fold ((via' : Int) - via) := ⟨_, rfl⟩
  obtain ⟨f2, hf2⟩ : ∃ f, f = fold ((mt' : Int) - mt) := ⟨_, rfl⟩
  obtain ⟨f3, hf3⟩ : ∃ f, f = (sq' + 65536 - sq) % 65536 := ⟨_, rfl⟩
  have hf3l : f3 < 65536 := by omega
  have c20a := fun W => zig_any ((via' : Int) - via) (by omega) (by omega) W
  have c20b := fun W => zig_any ((mt' : Int) - mt) (by omega) (by omega) W
  rw [← hf1] at c20a hfo1 hel ⊢
  rw [← hf2] at c20b hfo2 hel ⊢
  rw [← hf3] at hv3 hel ⊢
  have HF3 := Lib.hid hf3
  clear hf1 hf2 hf3
  have HEL := Lib.hid hel
  obtain ⟨p0, p1, p2, p3, p4, p5, p6, p7⟩ := row8 HB.r0
  obtain ⟨q0, q1, q2, q3, q4, q5, q6, q7⟩ := row8 HB.r1
  have HST := Lib.hid (fun k (hk : k ≤ s) => show k < s ↔ k < kO ∧ k < kP ∧ O.getD k 0 = P.getD k 0 by rw [hs, same_comm] at hk ⊢; rw [← hkO, ← hkP]; exact same_step O P k hk)
  clear hkO hkP hs hhd2 hel hO hP
  go_enter Try.func11, Try.ntmps11
  go_upto_block 0 with (first
    | (go_at_call 26; (with_reducible refine (cO _).mono ?_); rintro e w1 ⟨g1, hg1, rfl, RO, B1⟩; clear cO; clear p0 p1 p2 p3 p4 p5 p6 p7 q0 q1 q2 q3 q4 q5 q6 q7; have HB := HB.step B1; obtain ⟨p0, p1, p2, p3, p4, p5, p6, p7⟩ := row8 HB.r0; obtain ⟨q0, q1, q2, q3, q4, q5, q6, q7⟩ := row8 HB.r1; have hg1 : w.heap.size ≤ g1 := (by simp at hg1; omega))
    | (go_at_call 26; (with_reducible refine (cP _).mono ?_); rintro e w2 ⟨g2, hg2, rfl, RP, B2⟩; clear cP; clear p0 p1 p2 p3 p4 p5 p6 p7 q0 q1 q2 q3 q4 q5 q6 q7; have HB := HB.step B2; obtain ⟨p0, p1, p2, p3, p4, p5, p6, p7⟩ := row8 HB.r0; obtain ⟨q0, q1, q2, q3, q4, q5, q6, q7⟩ := row8 HB.r1; have RO := (RO.below B2 (Nat.le_refl _)).more B2.size))
  clear p0 p1 p2 p3 p4 p5 p6 p7 q0 q1 q2 q3 q4 q5 q6 q7
  have HBS := HB.be.size
  go_cut [7] (fun v7 wx => v7 = .int .i64 s ∧ Below w2.heap.size w2 wx)
  case first =>
    go_wp2_with (fail)
    go_loopw [7] (fun i wr => ∃ k : Nat, k ≤ s ∧ i = .int .i64 k ∧ Below w2.heap.size w2 wr) (fun i _ => s - (intOf i).toNat)
    case atStart => exact ⟨0, by omega, rfl, Below.refl _ _⟩
    case round =>
      obtain ⟨k, hk, rfl, B0⟩ := hrel
      have st := HST.out k hk
      by_cases h1 : k < kO
      · have d1 : decide ((k : Int) < (kO : Int)) = true := by rw [decide_eq_true_eq]; omega
        by_cases h2 : k < kP
        · have d2 : decide ((k : Int) < (kP : Int)) = true := by rw [decide_eq_true_eq]; omega
          obtain ⟨adA, ea, _, hA⟩ := RO.below B0 (Nat.le_refl _) (by rw [HKO.out]; omega)
          obtain ⟨adB, eb, _, hB⟩ := RP.below B0 (Nat.le_refl _) (by rw [HKP.out]; omega)
          injection ea with ea
          injection eb with eb
          subst ea eb
          have cA := hA k (by rw [HKO.out]; exact h1)
          have cB := hB k (by rw [HKP.out]; exact h2)
          have ex : O.getD k 0 = O[k]'(by rw [HKO.out]; exact h1) := by rw [List.getD_eq_getElem?_getD, List.getElem?_eq_getElem]; rfl
          have ey : P.getD k 0 = P[k]'(by rw [HKP.out]; exact h2) := by rw [List.getD_eq_getElem?_getD, List.getElem?_eq_getElem]; rfl
          rw [← ex] at cA
          rw [← ey] at cB
          rw [zero_add'] at cA cB
          unfold b8 at cA cB
          generalize O.getD k 0 = x at *
          generalize P.getD k 0 = y at *
          clear hA hB ex ey
          by_cases e : x = y
          · have hlt : k < s := st.2 ⟨h1, h2, e⟩
            have eb : ((x.toNat : Int) == (y.toNat : Int)) = true := by rw [e]; simp
            generalize (x.toNat : Int) = X at *
            generalize (y.toNat : Int) = Y at *
            clear st e
            go_wp2
            go_quiet (fail)
            go_wp2
            go_roundw
            case rel => exact ⟨k + 1, by omega, by go_num, bN B0⟩
            case measure => simp [intOf]; omega
          · have hno : ¬ k < s := fun h => e (st.1 h).2.2
            have eb : ((x.toNat : Int) == (y.toNat : Int)) = false := by
              rw [beq_eq_false_iff_ne]; intro h; exact e (UInt8.toNat.inj (by omega))
            obtain rfl : k = s := by omega
            generalize (x.toNat : Int) = X at *
            generalize (y.toNat : Int) = Y at *
            clear st e hno hk
            go_wp2
            go_quiet (fail)
            go_wp2
            go_meet
            case rel => exact ⟨rfl, bN B0⟩
        · have d2 : decide ((k : Int) < (kP : Int)) = false := by rw [decide_eq_false_iff_not]; omega
          have hno : ¬ k < s := fun h => h2 (st.1 h).2.1
          obtain rfl : k = s := by omega
          clear st hno hk
          go_wp2
          go_quiet (fail)
          go_wp2
          go_meet
          case rel => exact ⟨rfl, bN B0⟩
      · have d1 : decide ((k : Int) < (kO : Int)) = false := by rw [decide_eq_false_iff_not]; omega
        have hno : ¬ k < s := fun h => h1 (st.1 h).1
        obtain rfl : k = s := by omega
        clear st hno hk
        go_wp2
        go_quiet (fail)
        go_wp2
        go_meet
        case rel => exact ⟨rfl, bN B0⟩
  case rest =>
    obtain ⟨rfl, BW⟩ := hcut
    generalize wc = wd at *
    have HB := HB.step BW
    obtain ⟨p0, p1, p2, p3, p4, p5, p6, p7⟩ := row8 HB.r0
    obtain ⟨q0, q1, q2, q3, q4, q5, q6, q7⟩ := row8 HB.r1
    have RO := (RO.below BW (Nat.le_refl _)).more BW.size
    have Ba := (Below.refl wd.heap.size wd).alloc (Nat.le_refl _) (.cells #[.int .u64 dt, .int .u64 hd] 26)
    have c27 := coins_any [dt, hd] wd.heap.size (wd.alloc (.cells #[.int .u64 dt, .int .u64 hd] 26)) (by simp) (heap_alloc_new wd _) (by intro z hz; simp only [List.mem_cons, List.not_mem_nil, or_false] at hz; rcases hz with rfl | rfl <;> omega) 2 rfl (by omega)
    have hhd3 : (n' : Int) * 16 + (s : Int) * 2 = hd := by have := HH.out; omega
    have hcl : (coins [dt, hd]).length + (O.drop s).length ≤ 1000000 := by
      have h1 := coins_len [dt, hd]
      simp only [List.length_cons, List.length_nil, List.length_drop, HKO.out] at h1 ⊢
      omega
    have hlt := HB.lt
    have hlt9 := Lib.hid hlt
    have hce : coins [dt, hd] = coin dt ++ coin hd := by simp [coins]
    have HCE := Lib.hid hce
    clear hce RP
    generalize coins [dt, hd] = Z at *
    go_wp2_with (first
      | (go_at_call 27; (with_reducible refine c27.mono ?_); rintro e w3 ⟨v3, rfl, O3, B3⟩; clear c27; clear p0 p1 p2 p3 p4 p5 p6 p7 q0 q1 q2 q3 q4 q5 q6 q7; have HB := (HB.step Ba).step B3; obtain ⟨p0, p1, p2, p3, p4, p5, p6, p7⟩ := row8 HB.r0; obtain ⟨q0, q1, q2, q3, q4, q5, q6, q7⟩ := row8 HB.r1; have hs3 := HB.be.size; have hsb : w.heap.size ≤ (wd.alloc (.cells #[.int .u64 dt, .int .u64 hd] 26)).heap.size := (by have := ((HB.be.size)); have h5 := BW.size; have h6 := HBS; simp; omega); obtain ⟨AC, hcut, RC, hAC⟩ := cut_any (((RO.below Ba (Nat.le_refl _)).more Ba.size).below B3 (Nat.le_refl _)) kO 4 s HKO.out.symm hkO4 (by simp) hsO)
      | (at_builtin; (with_reducible refine app_any rfl (.tmp 63) (.tmp 66) rfl (wd.alloc (.cells #[.int .u64 dt, .int .u64 hd] 26)).heap.size v3 Z (O.drop s) AC (kO - s) (4 - s) _ rfl rfl O3 RC (by rw [List.length_drop, HKO.out]) hAC hcl B3.size w.heap.size w HB.be hsb ?_)))
    intro v4 w4 O4 B4 G4
    clear p0 p1 p2 p3 p4 p5 p6 p7 q0 q1 q2 q3 q4 q5 q6 q7
    have HB := HB.own G4 (fun j hj => by have := (O3.lt j hj).1; simp at this; omega)
    obtain ⟨p0, p1, p2, p3, p4, p5, p6, p7⟩ := row8 HB.r0; obtain ⟨q0, q1, q2, q3, q4, q5, q6, q7⟩ := row8 HB.r1
    have hZ : Z ++ O.drop s = coin dt ++ (coin hd ++ O.drop s) := by rw [HCE.out, List.append_assoc]
    rw [hZ] at O4
    have HL4 := Lib.hid (show ∀ j, v4.ownBlock = some j → w.heap.size + 1 < j from fun j hj => by have h8 := (O4.lt j hj).1; have h9 : wd.heap.size + 1 ≤ j := (by simpa using h8); have := hlt9.out; omega)
    replace O4 := own_low (B1 := w.heap.size) O4 (by omega)
    clear O3 RC hcut hcl RO hZ B3 HCE
    go_upto_region 12 with (fail)
    clear p0 p1 p2 p3 p4 p5 p6 p7 q0 q1 q2 q3 q4 q5 q6 q7
    have hq1 : IntKind.u64.wrap (sq' : Int) = sq' := by rw [wrap_u64]; omega
    have hq2 : IntKind.u64.wrap (sq : Int) = sq := by rw [wrap_u64]; omega
    have hq3 : IntKind.u64.wrap ((sq' : Int) + 65536) = (sq' : Int) + 65536 := by rw [wrap_u64]; omega
    have hq4 : IntKind.u64.wrap ((sq' : Int) + 65536 - sq) = (sq' : Int) + 65536 - sq := by rw [wrap_u64]; omega
    have hq5 : ((sq' : Int) + 65536 - sq).tmod 65536 = f3 := by rw [Int.tmod_eq_emod_of_nonneg (by omega)]; have := HF3.out; omega
    have hv1w : IntKind.i64.wrap ((via' : Int) - via) = (via' : Int) - via := by rw [IntKind.wrap_i64]; omega
    have hv2w : IntKind.i64.wrap ((mt' : Int) - mt) = (mt' : Int) - mt := by rw [IntKind.wrap_i64]; omega
    have hm1 : IntKind.i64.wrap (mt' : Int) = mt' := by rw [IntKind.wrap_i64]; omega
    have hm2 : IntKind.i64.wrap (mt : Int) = mt := by rw [IntKind.wrap_i64]; omega
    have HLL : Hid ((coin dt ++ (coin hd ++ O.drop s)).length + (coins [f1, f2, f3]).length ≤ 1000000) := Lib.hid (by
      have h3 := coins_len [f1, f2, f3]
      have h4 := coins_len [dt, hd]
      simp only [coins, List.length_cons, List.length_nil, List.length_append, List.length_drop, HKO.out, length_coin] at h3 h4 ⊢
      have := sz_le dt
      have := sz_le hd
      omega)
    refine wp_region_noPanic ?_
    have O5 : Own w4.drew w.heap.size v4 _ := O4.kept ((Below.refl _ _).drew)
    replace HB := HB.step ((Below.refl _ _).drew)
    refine wp_region_held_drew (S := fun W : World => Bx w W (#[.int .u64 no, .int .u64 time, .bool g, .int .u32 a, .int .u8 n, .int .i64 via, .int .u16 mt, .int .u16 sq]) (#[.int .u64 no', .int .u64 time', .bool false, .int .u32 a', .int .u8 n', .int .i64 via', .int .u16 mt', .int .u16 sq'])) (by kernel_rfl) HB (fun hHeld => ?_)
    generalize w4.drew = w5 at *
    refine wpAnyH_take (i := 0) (oi := { dst := some 71, op := Op.move (Operand.tmp 9), type := 35, pos := "ref.go:187", after := #[], guard := none }) (v := v4) rfl (by kernel_rfl) (by kernel_rfl) (by kernel_rfl) (fun _ _ _ h => h) (Or.inl ⟨by rfl, fun w hSw => by go_simp⟩) (by assumption) ?_
    try simp only [Act.put, List.setIfInBounds_toArray, List.set_cons_zero, List.set_cons_succ]
    refine wpAnyH_take (i := 1) (oi := { dst := some 72, op := Op.fieldAddr 34 (Operand.tmp 3) 3, type := 0, pos := "ref.go:187", after := #[], guard := none }) (v := .pointer (some ⟨w.heap.size + 1, 3, none⟩)) rfl (by kernel_rfl) (by kernel_rfl) (by kernel_rfl) (fun _ _ _ h => h) (Or.inl ⟨by rfl, fun w hSw => by go_simp⟩) (by assumption) ?_
    try simp only [Act.put, List.setIfInBounds_toArray, List.set_cons_zero, List.set_cons_succ]
    refine wpAnyH_take (i := 2) (oi := { dst := some 73, op := Op.fieldAddr 32 (Operand.tmp 72) 1, type := 0, pos := "ref.go:187", after := #[{ on := 1, ground := Ground.data }], guard := none }) (v := .pointer (some ⟨w.heap.size + 1, 5, none⟩)) rfl (by kernel_rfl) (by kernel_rfl) (by kernel_rfl) (fun _ _ _ h => h) (Or.inl ⟨by rfl, fun w hSw => by go_simp⟩) (by assumption) ?_
    try simp only [Act.put, List.setIfInBounds_toArray, List.set_cons_zero, List.set_cons_succ]
    refine wpAnyH_take (i := 3) (oi := { dst := some 74, op := Op.load 3 (Operand.tmp 73), type := 3, pos := "ref.go:187", after := #[{ on := 2, ground := Ground.data }], guard := none }) (v := .int .i64 (via' : Int)) rfl (by kernel_rfl) (by kernel_rfl) (by kernel_rfl) (fun _ _ _ h => h) (Or.inl ⟨by rfl, fun w hSw => by obtain ⟨y0, y1, y2, y3, y4, y5, y6, y7⟩ := row8 hSw.r1; go_simp⟩) (by assumption) ?_
    try simp only [Act.put, List.setIfInBounds_toArray, List.set_cons_zero, List.set_cons_succ]
    refine wpAnyH_take (i := 4) (oi := { dst := some 75, op := Op.fieldAddr 34 (Operand.tmp 2) 3, type := 0, pos := "ref.go:187", after := #[], guard := none }) (v := .pointer (some ⟨w.heap.size, 3, none⟩)) rfl (by kernel_rfl) (by kernel_rfl) (by kernel_rfl) (fun _ _ _ h => h) (Or.inl ⟨by rfl, fun w hSw => by go_simp⟩) (by assumption) ?_
    try simp only [Act.put, List.setIfInBounds_toArray, List.set_cons_zero, List.set_cons_succ]
    refine wpAnyH_take (i := 5) (oi := { dst := some 76, op := Op.fieldAddr 32 (Operand.tmp 75) 1, type := 0, pos := "ref.go:187", after := #[{ on := 4, ground := Ground.data }], guard := none }) (v := .pointer (some ⟨w.heap.size, 5, none⟩)) rfl (by kernel_rfl) (by kernel_rfl) (by kernel_rfl) (fun _ _ _ h => h) (Or.inl ⟨by rfl, fun w hSw => by go_simp⟩) (by assumption) ?_
    try simp only [Act.put, List.setIfInBounds_toArray, List.set_cons_zero, List.set_cons_succ]
    refine wpAnyH_take (i := 6) (oi := { dst := some 77, op := Op.load 3 (Operand.tmp 76), type := 3, pos := "ref.go:187", after := #[{ on := 5, ground := Ground.data }], guard := none }) (v := .int .i64 (via : Int)) rfl (by kernel_rfl) (by kernel_rfl) (by kernel_rfl) (fun _ _ _ h => h) (Or.inl ⟨by rfl, fun w hSw => by obtain ⟨y0, y1, y2, y3, y4, y5, y6, y7⟩ := row8 hSw.r0; go_simp⟩) (by assumption) ?_
    try simp only [Act.put, List.setIfInBounds_toArray, List.set_cons_zero, List.set_cons_succ]
    refine wpAnyH_take (i := 7) (oi := { dst := some 78, op := Op.binOp BinOp.sub 3 (Operand.tmp 74) (Operand.tmp 77) 3, type := 3, pos := "ref.go:187", after := #[{ on := 3, ground := Ground.data }, { on := 6, ground := Ground.data }], guard := none }) (v := .int .i64 ((via' : Int) - via)) rfl (by kernel_rfl) (by kernel_rfl) (by kernel_rfl) (fun _ _ _ h => h) (Or.inl ⟨by rfl, fun w hSw => by have hz := hv1w; go_simp⟩) (by assumption) ?_
    try simp only [Act.put, List.setIfInBounds_toArray, List.set_cons_zero, List.set_cons_succ]
    refine wpAnyH_take (i := 9) (oi := { dst := some 80, op := Op.fieldAddr 34 (Operand.tmp 3) 3, type := 0, pos := "ref.go:187", after := #[], guard := none }) (v := .pointer (some ⟨w.heap.size + 1, 3, none⟩)) rfl (by kernel_rfl) (by kernel_rfl) (by kernel_rfl) (fun _ _ _ h => h) (Or.inl ⟨by rfl, fun w hSw => by go_simp⟩) (by assumption) ?_
    try simp only [Act.put, List.setIfInBounds_toArray, List.set_cons_zero, List.set_cons_succ]
    refine wpAnyH_take (i := 10) (oi := { dst := some 81, op := Op.fieldAddr 32 (Operand.tmp 80) 2, type := 0, pos := "ref.go:187", after := #[{ on := 9, ground := Ground.data }], guard := none }) (v := .pointer (some ⟨w.heap.size + 1, 6, none⟩)) rfl (by kernel_rfl) (by kernel_rfl) (by kernel_rfl) (fun _ _ _ h => h) (Or.inl ⟨by rfl, fun w hSw => by go_simp⟩) (by assumption) ?_
    try simp only [Act.put, List.setIfInBounds_toArray, List.set_cons_zero, List.set_cons_succ]
    refine wpAnyH_take (i := 11) (oi := { dst := some 82, op := Op.load 30 (Operand.tmp 81), type := 30, pos := "ref.go:187", after := #[{ on := 10, ground := Ground.data }], guard := none }) (v := .int .u16 (mt' : Int)) rfl (by kernel_rfl) (by kernel_rfl) (by kernel_rfl) (fun _ _ _ h => h) (Or.inl ⟨by rfl, fun w hSw => by obtain ⟨y0, y1, y2, y3, y4, y5, y6, y7⟩ := row8 hSw.r1; go_simp⟩) (by assumption) ?_
    try simp only [Act.put, List.setIfInBounds_toArray, List.set_cons_zero, List.set_cons_succ]
    refine wpAnyH_take (i := 12) (oi := { dst := some 83, op := Op.convert 30 3 (Operand.tmp 82), type := 3, pos := "ref.go:187", after := #[{ on := 11, ground := Ground.data }], guard := none }) (v := .int .i64 (mt' : Int)) rfl (by kernel_rfl) (by kernel_rfl) (by kernel_rfl) (fun _ _ _ h => h) (Or.inl ⟨by rfl, fun w hSw => by have hz := hm1; go_simp⟩) (by assumption) ?_
    try simp only [Act.put, List.setIfInBounds_toArray, List.set_cons_zero, List.set_cons_succ]
    refine wpAnyH_take (i := 13) (oi := { dst := some 84, op := Op.fieldAddr 34 (Operand.tmp 2) 3, type := 0, pos := "ref.go:187", after := #[], guard := none }) (v := .pointer (some ⟨w.heap.size, 3, none⟩)) rfl (by kernel_rfl) (by kernel_rfl) (by kernel_rfl) (fun _ _ _ h => h) (Or.inl ⟨by rfl, fun w hSw => by go_simp⟩) (by assumption) ?_
    try simp only [Act.put, List.setIfInBounds_toArray, List.set_cons_zero, List.set_cons_succ]
    refine wpAnyH_take (i := 14) (oi := { dst := some 85, op := Op.fieldAddr 32 (Operand.tmp 84) 2, type := 0, pos := "ref.go:187", after := #[{ on := 13, ground := Ground.data }], guard := none }) (v := .pointer (some ⟨w.heap.size, 6, none⟩)) rfl (by kernel_rfl) (by kernel_rfl) (by kernel_rfl) (fun _ _ _ h => h) (Or.inl ⟨by rfl, fun w hSw => by go_simp⟩) (by assumption) ?_
    try simp only [Act.put, List.setIfInBounds_toArray, List.set_cons_zero, List.set_cons_succ]
    refine wpAnyH_take (i := 15) (oi := { dst := some 86, op := Op.load 30 (Operand.tmp 85), type := 30, pos := "ref.go:187", after := #[{ on := 14, ground := Ground.data }], guard := none }) (v := .int .u16 (mt : Int)) rfl (by kernel_rfl) (by kernel_rfl) (by kernel_rfl) (fun _ _ _ h => h) (Or.inl ⟨by rfl, fun w hSw => by obtain ⟨y0, y1, y2, y3, y4, y5, y6, y7⟩ := row8 hSw.r0; go_simp⟩) (by assumption) ?_
    try simp only [Act.put, List.setIfInBounds_toArray, List.set_cons_zero, List.set_cons_succ]
    refine wpAnyH_take (i := 16) (oi := { dst := some 87, op := Op.convert 30 3 (Operand.tmp 86), type := 3, pos := "ref.go:187", after := #[{ on := 15, ground := Ground.data }], guard := none }) (v := .int .i64 (mt : Int)) rfl (by kernel_rfl) (by kernel_rfl) (by kernel_rfl) (fun _ _ _ h => h) (Or.inl ⟨by rfl, fun w hSw => by have hz := hm2; go_simp⟩) (by assumption) ?_
    try simp only [Act.put, List.setIfInBounds_toArray, List.set_cons_zero, List.set_cons_succ]
    refine wpAnyH_take (i := 17) (oi := { dst := some 88, op := Op.binOp BinOp.sub 3 (Operand.tmp 83) (Operand.tmp 87) 3, type := 3, pos := "ref.go:187", after := #[{ on := 12, ground := Ground.data }, { on := 16, ground := Ground.data }], guard := none }) (v := .int .i64 ((mt' : Int) - mt)) rfl (by kernel_rfl) (by kernel_rfl) (by kernel_rfl) (fun _ _ _ h => h) (Or.inl ⟨by rfl, fun w hSw => by have hz := hv2w; go_simp⟩) (by assumption) ?_
    try simp only [Act.put, List.setIfInBounds_toArray, List.set_cons_zero, List.set_cons_succ]
    refine wpAnyH_take (i := 19) (oi := { dst := some 90, op := Op.fieldAddr 34 (Operand.tmp 3) 3, type := 0, pos := "ref.go:187", after := #[], guard := none }) (v := .pointer (some ⟨w.heap.size + 1, 3, none⟩)) rfl (by kernel_rfl) (by kernel_rfl) (by kernel_rfl) (fun _ _ _ h => h) (Or.inl ⟨by rfl, fun w hSw => by go_simp⟩) (by assumption) ?_
    try simp only [Act.put, List.setIfInBounds_toArray, List.set_cons_zero, List.set_cons_succ]
    refine wpAnyH_take (i := 20) (oi := { dst := some 91, op := Op.fieldAddr 32 (Operand.tmp 90) 3, type := 0, pos := "ref.go:187", after := #[{ on := 19, ground := Ground.data }], guard := none }) (v := .pointer (some ⟨w.heap.size + 1, 7, none⟩)) rfl (by kernel_rfl) (by kernel_rfl) (by kernel_rfl) (fun _ _ _ h => h) (Or.inl ⟨by rfl, fun w hSw => by go_simp⟩) (by assumption) ?_
    try simp only [Act.put, List.setIfInBounds_toArray, List.set_cons_zero, List.set_cons_succ]
    refine wpAnyH_take (i := 21) (oi := { dst := some 92, op := Op.load 30 (Operand.tmp 91), type := 30, pos := "ref.go:187", after := #[{ on := 20, ground := Ground.data }], guard := none }) (v := .int .u16 (sq' : Int)) rfl (by kernel_rfl) (by kernel_rfl) (by kernel_rfl) (fun _ _ _ h => h) (Or.inl ⟨by rfl, fun w hSw => by obtain ⟨y0, y1, y2, y3, y4, y5, y6, y7⟩ := row8 hSw.r1; go_simp⟩) (by assumption) ?_
    try simp only [Act.put, List.setIfInBounds_toArray, List.set_cons_zero, List.set_cons_succ]
    refine wpAnyH_take (i := 22) (oi := { dst := some 93, op := Op.convert 30 26 (Operand.tmp 92), type := 26, pos := "ref.go:187", after := #[{ on := 21, ground := Ground.data }], guard := none }) (v := .int .u64 (sq' : Int)) rfl (by kernel_rfl) (by kernel_rfl) (by kernel_rfl) (fun _ _ _ h => h) (Or.inl ⟨by rfl, fun w hSw => by have hz := hq1; go_simp⟩) (by assumption) ?_
    try simp only [Act.put, List.setIfInBounds_toArray, List.set_cons_zero, List.set_cons_succ]
    refine wpAnyH_take (i := 23) (oi := { dst := some 94, op := Op.binOp BinOp.add 26 (Operand.tmp 93) (Operand.const (Value.int IntKind.u64 65536)) 26, type := 26, pos := "ref.go:187", after := #[{ on := 22, ground := Ground.data }], guard := none }) (v := .int .u64 ((sq' : Int) + 65536)) rfl (by kernel_rfl) (by kernel_rfl) (by kernel_rfl) (fun _ _ _ h => h) (Or.inl ⟨by rfl, fun w hSw => by have hz := hq3; go_simp⟩) (by assumption) ?_
    try simp only [Act.put, List.setIfInBounds_toArray, List.set_cons_zero, List.set_cons_succ]
    refine wpAnyH_take (i := 24) (oi := { dst := some 95, op := Op.fieldAddr 34 (Operand.tmp 2) 3, type := 0, pos := "ref.go:187", after := #[], guard := none }) (v := .pointer (some ⟨w.heap.size, 3, none⟩)) rfl (by kernel_rfl) (by kernel_rfl) (by kernel_rfl) (fun _ _ _ h => h) (Or.inl ⟨by rfl, fun w hSw => by go_simp⟩) (by assumption) ?_
    try simp only [Act.put, List.setIfInBounds_toArray, List.set_cons_zero, List.set_cons_succ]
    refine wpAnyH_take (i := 25) (oi := { dst := some 96, op := Op.fieldAddr 32 (Operand.tmp 95) 3, type := 0, pos := "ref.go:187", after := #[{ on := 24, ground := Ground.data }], guard := none }) (v := .pointer (some ⟨w.heap.size, 7, none⟩)) rfl (by kernel_rfl) (by kernel_rfl) (by kernel_rfl) (fun _ _ _ h => h) (Or.inl ⟨by rfl, fun w hSw => by go_simp⟩) (by assumption) ?_
    try simp only [Act.put, List.setIfInBounds_toArray, List.set_cons_zero, List.set_cons_succ]
    refine wpAnyH_take (i := 26) (oi := { dst := some 97, op := Op.load 30 (Operand.tmp 96), type := 30, pos := "ref.go:187", after := #[{ on := 25, ground := Ground.data }], guard := none }) (v := .int .u16 (sq : Int)) rfl (by kernel_rfl) (by kernel_rfl) (by kernel_rfl) (fun _ _ _ h => h) (Or.inl ⟨by rfl, fun w hSw => by obtain ⟨y0, y1, y2, y3, y4, y5, y6, y7⟩ := row8 hSw.r0; go_simp⟩) (by assumption) ?_
    try simp only [Act.put, List.setIfInBounds_toArray, List.set_cons_zero, List.set_cons_succ]
    refine wpAnyH_take (i := 27) (oi := { dst := some 98, op := Op.convert 30 26 (Operand.tmp 97), type := 26, pos := "ref.go:187", after := #[{ on := 26, ground := Ground.data }], guard := none }) (v := .int .u64 (sq : Int)) rfl (by kernel_rfl) (by kernel_rfl) (by kernel_rfl) (fun _ _ _ h => h) (Or.inl ⟨by rfl, fun w hSw => by have hz := hq2; go_simp⟩) (by assumption) ?_
    try simp only [Act.put, List.setIfInBounds_toArray, List.set_cons_zero, List.set_cons_succ]
    refine wpAnyH_take (i := 28) (oi := { dst := some 99, op := Op.binOp BinOp.sub 26 (Operand.tmp 94) (Operand.tmp 98) 26, type := 26, pos := "ref.go:187", after := #[{ on := 23, ground := Ground.data }, { on := 27, ground := Ground.data }], guard := none }) (v := .int .u64 ((sq' : Int) + 65536 - sq)) rfl (by kernel_rfl) (by kernel_rfl) (by kernel_rfl) (fun _ _ _ h => h) (Or.inl ⟨by rfl, fun w hSw => by have hz := hq4; go_simp⟩) (by assumption) ?_
    try simp only [Act.put, List.setIfInBounds_toArray, List.set_cons_zero, List.set_cons_succ]
    refine wpAnyH_take (i := 29) (oi := { dst := some 100, op := Op.binOp BinOp.rem 26 (Operand.tmp 99) (Operand.const (Value.int IntKind.u64 65536)) 26, type := 26, pos := "ref.go:187", after := #[{ on := 28, ground := Ground.data }], guard := none }) (v := .int .u64 (f3 : Int)) rfl (by kernel_rfl) (by kernel_rfl) (by kernel_rfl) (fun _ _ _ h => h) (Or.inl ⟨by rfl, fun w hSw => by have hz := hq5; go_simp⟩) (by assumption) ?_
    try simp only [Act.put, List.setIfInBounds_toArray, List.set_cons_zero, List.set_cons_succ]
    refine wpAnyH_ready (rs := [8]) (by kernel_rfl) (by simp) ?_
    refine AllReadyH.cons (o := { dst := some 79, op := Op.call { callee := Callee.value (Operand.func 28), args := #[Operand.tmp 78], argTypes := #[3] }, type := 26, pos := "ref.go:187", after := #[{ on := 7, ground := Ground.data }], guard := none }) rfl (fun K hK => ?_) AllReadyH.nil
    go_simp
    with_reducible refine (c20a _).mono ?_
    rintro e w' ⟨rfl, hw⟩
    rw [hw]
    clear hw w'
    refine hK.out _ _ (HB) (fun hHeld => ?_)
    clear hK K
    try simp only [Act.put, List.setIfInBounds_toArray, List.set_cons_zero, List.set_cons_succ]
    refine wpAnyH_ready (rs := [18]) (by kernel_rfl) (by simp) ?_
    refine AllReadyH.cons (o := { dst := some 89, op := Op.call { callee := Callee.value (Operand.func 28), args := #[Operand.tmp 88], argTypes := #[3] }, type := 26, pos := "ref.go:187", after := #[{ on := 17, ground := Ground.data }, { on := 8, ground := Ground.chain }], guard := none }) rfl (fun K hK => ?_) AllReadyH.nil
    go_simp
    with_reducible refine (c20b _).mono ?_
    rintro e w' ⟨rfl, hw⟩
    rw [hw]
    clear hw w'
    refine hK.out _ _ (HB) (fun hHeld => ?_)
    clear hK K
    try simp only [Act.put, List.setIfInBounds_toArray, List.set_cons_zero, List.set_cons_succ]
    refine wpAnyH_ready (rs := [30]) (by kernel_rfl) (by simp) ?_
    refine AllReadyH.cons (o := { dst := some 101, op := Op.buildSlice 83 3 #[(0, Operand.tmp 79), (1, Operand.tmp 89), (2, Operand.tmp 100)], type := 83, pos := "ref.go:187", after := #[{ on := 8, ground := Ground.data }, { on := 18, ground := Ground.data }, { on := 29, ground := Ground.data }], guard := none }) rfl (fun K hK => ?_) AllReadyH.nil
    go_simp
    have Ba := (Below.refl w5.heap.size w5).alloc (Nat.le_refl _) (.cells #[.int .u64 f1, .int .u64 f2, .int .u64 f3] 26)
    have HB6 := HB.step Ba
    have O6 := O5.kept Ba
    refine hK.out _ _ (HB6) (fun hHeld => ?_)
    clear hK K
    try simp only [Act.put, List.setIfInBounds_toArray, List.set_cons_zero, List.set_cons_succ]
    refine wpAnyH_ready (rs := [31]) (by kernel_rfl) (by simp) ?_
    refine AllReadyH.cons (o := { dst := some 102, op := Op.call { callee := Callee.value (Operand.func 27), args := #[Operand.tmp 101], argTypes := #[83] }, type := 35, pos := "ref.go:187", after := #[{ on := 30, ground := Ground.data }, { on := 18, ground := Ground.chain }], guard := none }) rfl (fun K hK => ?_) AllReadyH.nil
    have c27 := coins_any [f1, f2, f3] w5.heap.size (w5.alloc (.cells #[.int .u64 f1, .int .u64 f2, .int .u64 f3] 26)) (by simp) (heap_alloc_new w5 _) (by intro z hz; simp only [List.mem_cons, List.not_mem_nil, or_false] at hz; rcases hz with rfl | rfl | rfl <;> omega) 3 rfl (by omega)
    go_simp
    with_reducible refine c27.mono ?_
    rintro e w7 ⟨v7, rfl, O7, B7⟩
    have HB7 := HB6.step B7
    replace O6 := O6.kept B7
    obtain ⟨A7, c7, hv7, R7, hc7, hn7⟩ := O7.form
    obtain ⟨k7, hk7⟩ : ∃ k, k = (coins [f1, f2, f3]).length := ⟨_, rfl⟩
    rw [← hk7] at hv7
    subst hv7
    have HK7 := Lib.hid hk7
    clear hk7
    have hlt7 := HB7.lt
    refine hK.out _ _ (HB7) (fun hHeld => ?_)
    clear hK K
    try simp only [Act.put, List.setIfInBounds_toArray, List.set_cons_zero, List.set_cons_succ]
    refine wpAnyH_ready (rs := [32]) (by kernel_rfl) (by simp) ?_
    refine AllReadyH.cons (o := { dst := some 103, op := Op.call { callee := Callee.builtin Builtin.append, args := #[Operand.tmp 71, Operand.tmp 102], argTypes := #[35, 35] }, type := 35, pos := "ref.go:187", after := #[{ on := 0, ground := Ground.data }, { on := 31, ground := Ground.data }, { on := 31, ground := Ground.chain }], guard := none }) rfl (fun K hK => ?_) AllReadyH.nil
    refine step_app1 rfl (.tmp 71) (.tmp 102) rfl w.heap.size v4 (coin dt ++ (coin hd ++ O.drop s)) (coins [f1, f2, f3]) A7 k7 c7 w7.heap.size rfl rfl O6 R7 HK7.out hn7 HLL.out HB7.be.size ?_
    intro v8 w8 O8 G8
    have HB8 := HB7.own G8 HL4.out
    refine hK.out _ _ (HB8) (fun hHeld => ?_)
    clear hK K
    try simp only [Act.put, List.setIfInBounds_toArray, List.set_cons_zero, List.set_cons_succ]
    refine wpAnyH_take (i := 33) (oi := { dst := some 9, op := Op.assign (Operand.tmp 103), type := 35, pos := "ref.go:187", after := #[{ on := 32, ground := Ground.data }, { on := 32, ground := Ground.chain }, { on := 0, ground := Ground.phase }, { on := 1, ground := Ground.phase }, { on := 2, ground := Ground.phase }, { on := 3, ground := Ground.phase }, { on := 4, ground := Ground.phase }, { on := 5, ground := Ground.phase }, { on := 6, ground := Ground.phase }, { on := 7, ground := Ground.phase }, { on := 8, ground := Ground.phase }, { on := 9, ground := Ground.phase }, { on := 10, ground := Ground.phase }, { on := 11, ground := Ground.phase }, { on := 12, ground := Ground.phase }, { on := 13, ground := Ground.phase }, { on := 14, ground := Ground.phase }, { on := 15, ground := Ground.phase }, { on := 16, ground := Ground.phase }, { on := 17, ground := Ground.phase }, { on := 18, ground := Ground.phase }, { on := 19, ground := Ground.phase }, { on := 20, ground := Ground.phase }, { on := 21, ground := Ground.phase }, { on := 22, ground := Ground.phase }, { on := 23, ground := Ground.phase }, { on := 24, ground := Ground.phase }, { on := 25, ground := Ground.phase }, { on := 26, ground := Ground.phase }, { on := 27, ground := Ground.phase }, { on := 28, ground := Ground.phase }, { on := 29, ground := Ground.phase }, { on := 30, ground := Ground.phase }, { on := 31, ground := Ground.phase }, { on := 32, ground := Ground.phase }], guard := none }) (v := v8) rfl (by kernel_rfl) (by kernel_rfl) (by kernel_rfl) (fun _ _ _ h => h) (Or.inl ⟨by rfl, fun w hSw => by go_simp⟩) (by assumption) ?_
    try simp only [Act.put, List.setIfInBounds_toArray, List.set_cons_zero, List.set_cons_succ]
    refine wpAnyH_done (by kernel_rfl) ?_ _
    try unfold NoPanic
    go_wp2
    go_ret
    exact ⟨v8, rfl, (by simpa [coins, List.append_assoc] using O8), HB8.be⟩
theorem renc_any (l c : C) (hl : l.Ok) (hc : c.Ok) (ha : l.After c) (w : World) : Calls Try.prog 11 #[.agg l.cells, .agg c.cells] w (CoinOwn w (l.enc c)) := by
  cases h : c.gone
  · exact renc_false l c h hl hc ha w
  · exact renc_true l c h hl hc ha w
end Go.Proofs.Ytmkclggnbnomhaa.Chg
