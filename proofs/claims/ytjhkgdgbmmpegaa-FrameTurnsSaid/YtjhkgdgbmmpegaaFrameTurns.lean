/-
  'For every input the Go function milestonelaw06.FrameTurns returns true, and each argument reads behind the call as it read before.'
  Conditions: none but the row's own (linux/amd64, sizes of what is read within the address space).
-/
import Derived.Test.YtjhkgdgbmmpegaaRows
import Derived.WalkKit
import Derived.ProofKit
import Derived.OpenShut
import Derived.ShutString
import Derived.ChangeOld
import Derived.Below
import Derived.Lib.SmallJoins
import Derived.Lib.Hide
import Derived.Test.YtjhkgdgbmmpegaaFLw
namespace Go.Proofs.Ytjhkgdgbmmpegaa.frameTurns
open Go.Proofs.Ytjhkgdgbmmpegaa.Frm
open Coin (b8 Rd Row Own sz coin got str)
open Go.ChangeShapes Go.WideShapes Go.ChangeAt Go.RowKit
open Go.ChangeMaps (open_string shut_string)
set_option linter.unusedVariables false

theorem own : ownKnob Try.prog.godebug = none := by kernel_rfl
theorem laidOut : laidOutB Try.prog = true := by kernel_rfl

theorem walk (a0 : Int) (a1 : Option Addr) (len1 cap1 : Nat) (z1 : List Int) (a2 : Int) (a3 : Int) (w : World) (w0 : (Lit.int .u8 a0).wf = true) (w1 : IsRow .u8 w a1 len1 cap1 z1) (w2 : (Lit.int .u16 a2).wf = true) (w3 : (Lit.int .u8 a3).wf = true) :
    Calls Try.prog 6 #[.int .u8 a0, .slice a1 len1 cap1, .int .u16 a2, .int .u8 a3] w fun e w' => e = .returned (.bool true) ∧ Below w.heap.size w w' := by
  obtain ⟨p, hp1, hp2, hp3, RP, hpn⟩ := bytes_of w1
  have k0 := bounds_u8 w0
  have k2 := bounds_u16 w2
  have k3 := bounds_u8 w3
  clear w0 w1 w2 w3
  unfold maxLen at hp2
  subst hp1
  obtain ⟨kd0, rfl⟩ := Int.eq_ofNat_of_zero_le k0.1
  obtain ⟨at_, rfl⟩ := Int.eq_ofNat_of_zero_le k2.1
  obtain ⟨turn, rfl⟩ := Int.eq_ofNat_of_zero_le k3.1
  obtain ⟨kd, rfl⟩ : ∃ kd : UInt8, kd0 = kd.toNat := ⟨UInt8.ofNat kd0, by rw [UInt8.toNat_ofNat']; omega⟩
  clear k0
  by_cases g2 : 300 < p.length
  · have g2' : (300 : Int) < p.length := by omega
    generalize p.length = m at *
    go_enter Try.func6, Try.ntmps6
    go_wp2_with fail
    refine (awake_any _).mono ?_
    rintro e w1 ⟨rfl, h1⟩
    go_wp2_with fail
    refine (awake_any _).mono ?_
    rintro e w2 ⟨rfl, h2⟩
    go_wp2_with fail
    go_ret
    exact ⟨rfl, h1.trans (h2.mono h1.size)⟩
  by_cases g3 : turn = 0
  · have g2' : ¬ (300 : Int) < p.length := by omega
    subst g3
    generalize p.length = m at *
    go_enter Try.func6, Try.ntmps6
    go_wp2_with fail
    refine (awake_any _).mono ?_
    rintro e w1 ⟨rfl, h1⟩
    go_wp2_with fail
    refine (awake_any _).mono ?_
    rintro e w2 ⟨rfl, h2⟩
    go_wp2_with fail
    go_ret
    exact ⟨rfl, h1.trans (h2.mono h1.size)⟩
  have g2' : ¬ (300 : Int) < p.length := by omega
  have g3' : ((turn : Int) == 0) = false := by simp; omega
  have hlp := length_pack kd p
  have hs := Coin.sz_le p.length
  have cp : ∀ W, Below w.heap.size w W → Calls Try.prog 10 #[.int .u8 (kd.toNat : Int), .slice a1 p.length cap1] W (Coin.CoinOwn W (pack kd p)) := fun W h => rpack_any kd a1 cap1 p W (by omega) ((RP.below h (Nat.le_refl _)).more h.size) hpn
  have HE1 := Lib.hid (fun k b (hk : k < sz p.length) hk' hb he => turn_head kd p k b hk hk' hb he)
  have HE2 := Lib.hid (fun k (hk : sz p.length ≤ k) hk' => turn_rest kd p (by omega) k turn (by omega) g3 hk hk')
  obtain ⟨m, hm⟩ : ∃ m, m = p.length := ⟨_, rfl⟩
  rw [← hm] at g2' cp hp3 ⊢
  have hm3 : m ≤ 300 := by omega
  obtain ⟨z, hz⟩ : ∃ z, z = sz p.length := ⟨_, rfl⟩
  rw [← hz] at HE1 HE2 hlp hs
  rw [← hm] at hlp
  clear hp2 hz
  generalize pack kd p = P at *
  obtain ⟨L, hL⟩ : ∃ L, L = P.length := ⟨_, rfl⟩
  rw [← hL] at hlp
  have HL := Lib.hid hL
  have hL9 : L ≤ 400 := by omega
  have hL1 : 5 ≤ L := by omega
  obtain ⟨k, hk0⟩ : ∃ k, k = at_ % L := ⟨_, rfl⟩
  have hkl : k < L := by rw [hk0]; exact Nat.mod_lt _ (by omega)
  have hkk : ((at_ : Int) % (L : Int)) = (k : Int) := by rw [hk0]; simp
  have hzi : (L : Int) - 5 - m = z := by omega
  have HLP := Lib.hid hlp
  clear hk0 hL hlp hm
  have hPk : k < P.length := by rw [← HL.out]; exact hkl
  have hxl : (P[k]).toNat ^^^ turn < 256 := Nat.xor_lt_two_pow (n := 8) (UInt8.toNat_lt _) (by omega)
  have hxr := u8_xor_nat (P[k]).toNat turn (UInt8.toNat_lt _) (by omega)
  have hne := turn_ne P[k] turn (by omega) g3
  go_enter Try.func6, Try.ntmps6
  go_wp2_with fail
  refine (awake_any _).mono ?_
  rintro e wa ⟨rfl, ha⟩
  go_wp2_with fail
  refine (cp _ ha).mono ?_
  rintro e wb ⟨v, rfl, O, hb⟩
  obtain ⟨g, cap, rfl, hBg, hcap⟩ := own_head O (by rw [← HL.out]; omega)
  have O' := own_set O rfl k (UInt8.ofNat ((P[k]).toNat ^^^ turn))
  have hcell : wb.cell? ⟨g, k, none⟩ = some (.int .u8 ((P[k]).toNat : Int)) := own_at O rfl k hPk
  have hfz := own_ice O rfl k
  have b2 : Below w.heap.size w wb := ha.trans (hb.mono ha.size)
  have eb : b8 (UInt8.ofNat ((P[k]).toNat ^^^ turn)) = .int .u8 (((P[k]).toNat ^^^ turn : Nat) : Int) := Coin.b8_small _ hxl
  rw [eb] at O'
  have hgw : w.heap.size ≤ g := Nat.le_trans ha.size hBg
  have B3 := b2.setCell (p := ⟨g, k, none⟩) hgw (.int .u8 (((P[k]).toNat ^^^ turn : Nat) : Int))
  rw [← HL.out] at O' hcap ⊢
  obtain ⟨Q, hQ⟩ : ∃ Q, Q = P.set k (UInt8.ofNat ((P[k]).toNat ^^^ turn)) := ⟨_, rfl⟩
  rw [← hQ] at O'
  have hQL : Q.length = L := by rw [hQ, List.length_set, HL.out]
  have hT1 : k < z → err Q = 0 → size Q < L := fun h he => by
    rw [hQ] at he ⊢; rw [HL.out]
    exact HE1.out k _ h hPk hne he
  have hT2 : ¬ k < z → err Q = 4 := fun h => by
    rw [hQ]; exact HE2.out k (by omega) hPk
  have HT1 : Hid (k < z → err Q = 0 → size Q < L) := hT1
  have HT2 : Hid (¬ k < z → err Q = 4) := hT2
  have HQL := Lib.hid hQL
  clear hQ hne O eb hT1 hT2 hQL
  generalize (P[k]).toNat ^^^ turn = x at *
  generalize (P[k]).toNat = x0 at *
  have R3 := (Coin.Own.form O').choose_spec.choose_spec
  have c1 : Calls Try.prog 9 #[.slice (some ⟨g, 0, none⟩) L cap, .int .i64 0] (wb.setCell ⟨g, k, none⟩ (.int .u8 (x : Int))) (OneSaid (wb.setCell ⟨g, k, none⟩ (.int .u8 (x : Int))) Q 0) := by
    obtain ⟨A, c, e, R, hc, hA⟩ := O'.form
    injection e with e1 e2 e3
    subst e1 e3
    have := one_any (some ⟨g, 0, none⟩) cap _ 0 Q (wb.setCell ⟨g, k, none⟩ (.int .u8 (x : Int))) (by rw [HQL.out]; omega) (by rw [HQL.out]; exact hcap) hA (Nat.zero_le _) (Nat.le_refl _) R
    rw [HQL.out] at this
    exact this
  obtain ⟨wc, hwc⟩ : ∃ wc, wc = wb.setCell ⟨g, k, none⟩ (.int .u8 (x : Int)) := ⟨_, rfl⟩
  rw [← hwc] at c1 B3
  have HWC := Lib.hid hwc
  clear hwc O' R3
  have cA : ∀ W, Calls Try.prog 9 #[.slice (some ⟨g, 0, none⟩) L cap, .int .i64 ((L : Int) + 1)] W fun e w' => e = .returned (.tuple #[.agg #[.int .u8 0, .slice none 0 0, .int .i64 0, .int .i64 0], .int .i64 1]) ∧ Below W.heap.size W w' := fun W => one_arg _ cap L _ W (by omega) (by omega) (by omega) (.inr (by omega))
  have cB : ∀ W, Calls Try.prog 9 #[.slice (some ⟨g, 0, none⟩) L cap, .int .i64 (-1)] W fun e w' => e = .returned (.tuple #[.agg #[.int .u8 0, .slice none 0 0, .int .i64 0, .int .i64 0], .int .i64 1]) ∧ Below W.heap.size W w' := fun W => one_arg _ cap L _ W (by omega) (by omega) (by omega) (.inl (by omega))
  obtain ⟨er, her⟩ : ∃ er, er = err Q := ⟨_, rfl⟩
  have c1 := Calls.mono' c1 (Q' := fun e w' => ∃ (ki : Int) (A : Option Addr) (n c : Nat) (i en : Int), e = .returned (.tuple #[.agg #[.int .u8 ki, .slice A n c, .int .i64 i, .int .i64 en], .int .i64 (er : Nat)]) ∧ (er = 0 → en = size Q) ∧ Below wc.heap.size wc w') (fun e w' h => by rw [her]; exact one_form h)
  have HER := Lib.hid her
  clear her
  have hz0 : ∀ W : World, (W.alloc (.cells #[.int .u8 0, .slice none 0 0, .int .i64 0, .int .i64 0] 26)).heap[W.heap.size]? = some (.cells #[.int .u8 0, .slice none 0 0, .int .i64 0, .int .i64 0] 26) := fun W => heap_alloc_new W _
  have hb0 : ∀ (W : World), Below w.heap.size w W → Below w.heap.size w (W.alloc (.cells #[.int .u8 0, .slice none 0 0, .int .i64 0, .int .i64 0] 26)) := fun W h => h.alloc h.size _
  have hp0 : ∀ (W W' : World), Below w.heap.size w W → (W.alloc (.cells #[.int .u8 0, .slice none 0 0, .int .i64 0, .int .i64 0] 26)).grownBy W' (some W.heap.size) → Below w.heap.size w W' := fun W W' h k => (hb0 W h).grown k (hb0 W h).size (fun j hj => by cases hj; exact h.size)
  have HP0 : Hid (∀ (W W' : World), Below w.heap.size w W → (W.alloc (.cells #[.int .u8 0, .slice none 0 0, .int .i64 0, .int .i64 0] 26)).grownBy W' (some W.heap.size) → Below w.heap.size w W') := hp0
  clear hb0 hp0
  by_cases hkz : k < z
  · have hcd : (at_ : Int) % (L : Int) < z := by omega
    by_cases h0 : er = 0
    · have hen : size Q < L := HT1.out hkz (by rw [← HER.out]; exact h0)
      subst h0
      go_wp2_with (first
        | (rw [← HWC.out]; (with_reducible refine c1.mono ?_); rintro e w1 ⟨ki, A1, n1, cc1, i1, en, rfl, hen1, d1⟩; have e1 := hz0 w1; have f1 := B3.trans (d1.mono B3.size))
        | (with_reducible refine put26 rfl (.tmp 11) (.tmp 49) rfl w1.heap.size rfl e1 rfl ?_; intro w2 E2 G2; have f2 := HP0.out _ _ f1 G2; have cA2 := cA w2)
        | (with_reducible refine cA2.mono ?_; rintro e w3 ⟨rfl, d3⟩; have e3 := hz0 w3; have f3 := f2.trans (d3.mono f2.size))
        | (with_reducible refine put26 rfl (.tmp 13) (.tmp 57) rfl w3.heap.size rfl e3 rfl ?_; intro w4 E4 G4; have f4 := HP0.out _ _ f3 G4; have cB4 := cB w4)
        | (with_reducible refine cB4.mono ?_; rintro e w5 ⟨rfl, d5⟩; have e5 := hz0 w5; have f5 := f4.trans (d5.mono f4.size))
        | (with_reducible refine put26 rfl (.tmp 15) (.tmp 62) rfl w5.heap.size rfl e5 rfl ?_; intro w6 E6 G6; have f6 := HP0.out _ _ f5 G6; have q6 := (cells4 (two_step (two_step E2 d3 G4) d5 G6)).2.2.2.1))
      go_ret
      exact ⟨rfl, f6⟩
    · have hne0 : (((er : Nat) : Int) != 0) = true := by simp; omega
      go_wp2_with (first
        | (rw [← HWC.out]; (with_reducible refine c1.mono ?_); rintro e w1 ⟨ki, A1, n1, cc1, i1, en, rfl, hen1, d1⟩; have e1 := hz0 w1; have f1 := B3.trans (d1.mono B3.size))
        | (with_reducible refine put26 rfl (.tmp 11) (.tmp 49) rfl w1.heap.size rfl e1 rfl ?_; intro w2 E2 G2; have f2 := HP0.out _ _ f1 G2; have cA2 := cA w2)
        | (with_reducible refine cA2.mono ?_; rintro e w3 ⟨rfl, d3⟩; have e3 := hz0 w3; have f3 := f2.trans (d3.mono f2.size))
        | (with_reducible refine put26 rfl (.tmp 13) (.tmp 57) rfl w3.heap.size rfl e3 rfl ?_; intro w4 E4 G4; have f4 := HP0.out _ _ f3 G4; have cB4 := cB w4)
        | (with_reducible refine cB4.mono ?_; rintro e w5 ⟨rfl, d5⟩; have e5 := hz0 w5; have f5 := f4.trans (d5.mono f4.size))
        | (with_reducible refine put26 rfl (.tmp 15) (.tmp 62) rfl w5.heap.size rfl e5 rfl ?_; intro w6 E6 G6; have f6 := HP0.out _ _ f5 G6))
      go_ret
      exact ⟨rfl, f6⟩
  · have hcd : ¬ (at_ : Int) % (L : Int) < z := by omega
    have h4 := HT2.out hkz
    rw [← HER.out] at h4
    subst h4
    go_wp2_with (first
      | (rw [← HWC.out]; (with_reducible refine c1.mono ?_); rintro e w1 ⟨ki, A1, n1, cc1, i1, en, rfl, hen1, d1⟩; have e1 := hz0 w1; have f1 := B3.trans (d1.mono B3.size))
      | (with_reducible refine put26 rfl (.tmp 11) (.tmp 49) rfl w1.heap.size rfl e1 rfl ?_; intro w2 E2 G2; have f2 := HP0.out _ _ f1 G2; have cA2 := cA w2)
      | (with_reducible refine cA2.mono ?_; rintro e w3 ⟨rfl, d3⟩; have e3 := hz0 w3; have f3 := f2.trans (d3.mono f2.size))
      | (with_reducible refine put26 rfl (.tmp 13) (.tmp 57) rfl w3.heap.size rfl e3 rfl ?_; intro w4 E4 G4; have f4 := HP0.out _ _ f3 G4; have cB4 := cB w4)
      | (with_reducible refine cB4.mono ?_; rintro e w5 ⟨rfl, d5⟩; have e5 := hz0 w5; have f5 := f4.trans (d5.mono f4.size))
      | (with_reducible refine put26 rfl (.tmp 15) (.tmp 62) rfl w5.heap.size rfl e5 rfl ?_; intro w6 E6 G6; have f6 := HP0.out _ _ f5 G6))
    go_ret
    exact ⟨rfl, f6⟩

set_option maxRecDepth 100000 in
theorem lifted (os : Os) (started : os.Started) (H : Type) (enc : TypeId × Value → H) :
    ReturnsInHanded {} Try.checked os 6 .any (Rows.frameTurnsSpec.pre6 enc Try.prog Try.f6 Rows.frameTurnsRow.domain false) (Rows.frameTurnsSpec.post enc Try.prog Try.f6 false true false false) := by
  refine returnsInHanded_of_change (C := Try.checked) own started (by kernel_rfl) Try.func6
    (ChangeSpec.witness6 (enc := enc) (C := Try.checked) false ⟨#[], #[.int .u8 0, .slice none 0 0, .int .u16 0, .int .u8 0], []⟩ 8 (by kernel_rfl) (by kernel_rfl) (by kernel_rfl) (by kernel_rfl)) ?_
  intro W base args ds gs before hval0 hW hcnd _
  have hval : ∀ (j : Nat) t v, Try.f6.params[j]? = some t → args[j]? = some v → Value.okWide Try.prog W .any base t v := hval0
  have hW' := hW
  obtain ⟨p, q, hA0, hV, rfl, hfz, hnd⟩ := hW
  have hA : DataW.TrodAll enc Try.prog W 0 (fun _ => true) true Try.f6.params.toList args.toList ds p := hA0
  rw [Try.params6] at hA hval
  obtain ⟨v0, vs0, d0, ds0, p0, q0, hargs, rfl, rfl, h0, r0⟩ := trodAll_cons hA
  obtain ⟨v1, vs1, d1, ds1, p1, q1, rfl, rfl, rfl, h1, r1⟩ := trodAll_cons r0
  obtain ⟨v2, vs2, d2, ds2, p2, q2, rfl, rfl, rfl, h2, r2⟩ := trodAll_cons r1
  obtain ⟨v3, vs3, d3, ds3, p3, q3, rfl, rfl, rfl, h3, r3⟩ := trodAll_cons r2
  obtain ⟨rfl, rfl, rfl⟩ := trodAll_nil r3
  obtain rfl : args = #[v0, v1, v2, v3] := by cases args; simp_all
  obtain ⟨rfl, rfl⟩ := trodVars_none hV
  obtain ⟨a0, rfl, rfl, rfl, w0⟩ := open_int Try.underlying5 (hval 0 5 v0 rfl rfl) h0
  obtain ⟨a1, len1, cap1, rfl⟩ := okWide_slice Try.underlying22 (hval 1 22 v1 rfl rfl)
  have k1 := h1
  have lt1 : ∀ x ∈ p1, x.block < W.heap.size := by obtain ⟨m, hm⟩ := k1; exact DataW.trod_lt m _ _ _ hm
  obtain ⟨z1, w1⟩ : ∃ zs, IsRow .u8 W a1 len1 cap1 zs := by
    obtain ⟨fuel, hf⟩ := h1
    rcases open_ints Try.underlying22 Try.underlying5 (by kernel_rfl) hf with ⟨hcs, _⟩ | ⟨x, l, c, zs, hcs, _, hl, hm, hz, _, hcell, hwz⟩
    · simp [Value.cells] at hcs
      obtain ⟨rfl, rfl, rfl⟩ := hcs
      exact ⟨[], .inl ⟨rfl, rfl, rfl, rfl⟩⟩
    · simp [Value.cells] at hcs
      obtain ⟨rfl, rfl, rfl⟩ := hcs
      exact ⟨zs, .inr ⟨_, rfl, hl, hm, by simpa using hz, hcell, hwz⟩⟩
  obtain ⟨a2, rfl, rfl, rfl, w2⟩ := open_int Try.underlying40 (hval 2 40 v2 rfl rfl) h2
  obtain ⟨a3, rfl, rfl, rfl, w3⟩ := open_int Try.underlying5 (hval 3 5 v3 rfl rfl) h3
  clear hA0 hval0
  refine (walk a0 a1 len1 cap1 z1 a2 a3 W w0 w1 w2 w3).mono fun e W' ⟨he, bel⟩ => ?_
  subst he
  exact ⟨_, rfl, _, _, _, [], _, [], hW', trodAll_mk1 (shut_bool Try.underlying4 _), (trodAll_cons_mk (shut_int Try.underlying5 w0) (trodAll_cons_mk (Below.trod laidOut (by kernel_rfl) (of_decide_eq_true (by kernel_rfl)) k1 bel lt1) (trodAll_cons_mk (shut_int Try.underlying40 w2) (trodAll_cons_mk (shut_int Try.underlying5 w3) trodAll_mk0)))), rfl, bel.frame _, fun h => by cases h⟩

theorem over : Rows.frameTurnsRow.holds Try.pinned (OpenSpec.ofChange Rows.frameTurnsSpec) :=
  OpenClaim.holds_of_wide 6 Try.f6 rfl rfl rfl rfl rfl rfl rfl ⟨rfl, rfl, rfl, rfl, rfl⟩ rfl rfl rfl rfl rfl (by kernel_rfl) Try.func6 (by kernel_rfl)
    (of_decide_eq_true (by kernel_rfl)) (by unfold Func.isWrapper; first | (rw [if_pos (by decide +kernel)]; kernel_rfl) | (rw [if_neg (by decide +kernel)]; exact ⟨rfl, rfl⟩))
    (fun os started H enc _ => lifted os started H enc)

theorem proved : Rows.FrameTurnsSaid := over
#print axioms proved
end Go.Proofs.Ytjhkgdgbmmpegaa.frameTurns
