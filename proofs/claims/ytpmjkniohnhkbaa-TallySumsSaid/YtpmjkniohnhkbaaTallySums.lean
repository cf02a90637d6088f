/-
  'For every input the Go function milestonelaw04.TallySums returns true, and each argument reads behind the call as it read before.'
  Conditions: none but the row's own (linux/amd64, sizes of what is read within the address space).
-/
import Derived.Test.YtpmjkniohnhkbaaRows
import Derived.WalkKit
import Derived.ProofKit
import Derived.OpenShut
import Derived.ShutString
import Derived.ChangeOld
import Derived.Below
import Derived.Lib.SmallJoins
import Derived.Lib.Hide
import Derived.Test.YtpmjkniohnhkbaaApp
namespace Go.Proofs.Ytpmjkniohnhkbaa.tallySums
open Go.Proofs.Ytpmjkniohnhkbaa.Tal
open Go.ChangeShapes Go.WideShapes Go.ChangeAt Go.RowKit
open Go.ChangeMaps (open_string shut_string)
set_option linter.unusedVariables false

theorem own : ownKnob Try.prog.godebug = none := by kernel_rfl
theorem laidOut : laidOutB Try.prog = true := by kernel_rfl

theorem walk (a0 : Option Addr) (len0 cap0 : Nat) (z0 : List Int) (a1 : Option Addr) (len1 cap1 : Nat) (z1 : List Int) (w : World) (w0 : IsRow .u8 w a0 len0 cap0 z0) (w1 : IsRow .u8 w a1 len1 cap1 z1) :
    Calls Try.prog 3 #[.slice a0 len0 cap0, .slice a1 len1 cap1] w fun e w' => e = .returned (.bool true) ∧ Below w.heap.size w w' := by
  obtain ⟨p, hp1, hp2, hp3, RP, hpn⟩ := bytes_of w0
  obtain ⟨q, hq1, hq2, hq3, RQ, hqn⟩ := bytes_of w1
  clear w0 w1
  unfold maxLen at hp2 hq2
  subst hp1 hq1
  by_cases h1 : 200 < p.length
  · have h1' : (200 : Int) < p.length := by omega
    generalize p.length = m at *
    generalize q.length = k at *
    go_enter Try.func3, Try.ntmps3
    go_wp2_with fail
    refine (awake_any _).mono ?_
    rintro e w1 ⟨rfl, h1⟩
    go_wp2_with fail
    refine (awake_any _).mono ?_
    rintro e w2 ⟨rfl, h2⟩
    go_wp2_with fail
    go_ret
    exact ⟨rfl, h1.trans (h2.mono h1.size)⟩
  by_cases h2 : 200 < q.length
  · have h1' : ¬ (200 : Int) < p.length := by omega
    have h2' : (200 : Int) < q.length := by omega
    generalize p.length = m at *
    generalize q.length = k at *
    go_enter Try.func3, Try.ntmps3
    go_wp2_with fail
    refine (awake_any _).mono ?_
    rintro e w1 ⟨rfl, h1⟩
    go_wp2_with fail
    refine (awake_any _).mono ?_
    rintro e w2 ⟨rfl, h2⟩
    go_wp2_with fail
    go_ret
    exact ⟨rfl, h1.trans (h2.mono h1.size)⟩
  have h1' : ¬ (200 : Int) < p.length := by omega
  have h2' : ¬ (200 : Int) < q.length := by omega
  go_enter Try.func3, Try.ntmps3
  go_wp2_with fail
  refine (awake_any _).mono ?_
  rintro e wa ⟨rfl, ha⟩
  have hsz := ha.size
  have RP1 : Rd wa w.heap.size a0 p := RP.below ha (Nat.le_refl _)
  have hlen1 : ([] : List UInt8).length + p.length ≤ 1000000 := by simp; omega
  have hlen2 : ([] ++ p).length + q.length ≤ 1000000 := by simp; omega
  have O0 := Own.nil wa wa.heap.size
  obtain ⟨m, hm⟩ : ∃ m, m = p.length := ⟨_, rfl⟩
  obtain ⟨k, hk⟩ : ∃ k, k = q.length := ⟨_, rfl⟩
  rw [← hm, ← hk]
  have HM := Lib.hid hm
  have HK := Lib.hid hk
  rw [← hm] at h1' hp3 h1
  rw [← hk] at h2' hq3 h2
  clear hm hk hp2 hq2
  go_wp2_with (first | (at_builtin; with_reducible refine app_any rfl (.const (.slice none 0 0)) (.tmp 19) rfl wa.heap.size (.slice none 0 0) [] p a0 m cap0 w.heap.size rfl rfl O0 RP1 HM.out hpn hlen1 (Nat.le_refl _) w.heap.size w ha hsz ?_; intro v1 w2 O1 B1 G1) | (at_builtin; with_reducible refine app_any rfl (.tmp 20) (.tmp 21) rfl wa.heap.size v1 ([] ++ p) q a1 k cap1 w.heap.size rfl rfl O1 (RQ.below B1 (Nat.le_refl _)) HK.out hqn hlen2 G1.size w.heap.size w B1 hsz ?_; intro v2 w3 O2 B2 G2))
  obtain ⟨A, c, rfl, RA, hXc, _⟩ := O2.form
  rw [List.nil_append] at *
  have hX : (p ++ q).length ≤ 1000000 := by rw [List.length_append]; exact hlen2
  have hmm := more_more 0 p q
  have hpl : more 0 p < 4294967296 := more_lt 0 p
  obtain ⟨X, hX0⟩ : ∃ X, X = p ++ q := ⟨_, rfl⟩
  rw [← hX0] at RA hX hmm ⊢
  clear hX0 O1 O2 O0 hXc RP1 G1 G2 B1 hlen2
  have c1 := sum_any A c X w3 hX RA
  obtain ⟨n, hn⟩ : ∃ n, n = X.length := ⟨_, rfl⟩
  rw [← hn] at c1 ⊢
  have HN := Lib.hid hn
  clear hn
  obtain ⟨V, hV⟩ : ∃ V, V = more 0 X := ⟨_, rfl⟩
  rw [← hV] at c1 hmm
  obtain ⟨U, hU⟩ : ∃ U, U = more 0 p := ⟨_, rfl⟩
  rw [← hU] at hmm hpl
  have HMM := Lib.hid hmm
  have HV := Lib.hid hV
  have HU := Lib.hid hU
  clear hmm hV hU
  have hp6 : p.length ≤ 1000000 := by rw [← HM.out]; omega
  have hq6 : q.length ≤ 1000000 := by rw [← HK.out]; omega
  have crs : ∀ W, Rd W w3.heap.size A X → Calls Try.prog 8 #[.slice A n c] W fun e w' => e = .returned (.int .u32 (V : Nat)) ∧ W = w' := fun W h => by rw [HN.out, HV.out]; exact rsum_any A c w3.heap.size X W hX h
  have csp : ∀ W, Below w.heap.size w W → Calls Try.prog 7 #[.slice a0 m cap0] W (MoreSaid W U) := fun W h => by rw [HM.out, HU.out]; exact sum_any a0 cap0 p W hp6 ((RP.below h (Nat.le_refl _)).more h.size)
  have cmp : ∀ W, Below w.heap.size w W → Calls Try.prog 9 #[.int .u32 0, .slice a0 m cap0] W (MoreSaid W U) := fun W h => by rw [HM.out, HU.out]; exact more_any 0 (by decide) a0 cap0 p W hp6 ((RP.below h (Nat.le_refl _)).more h.size)
  have cmq : ∀ W, Below w.heap.size w W → Calls Try.prog 9 #[.int .u32 (U : Nat), .slice a1 k cap1] W (MoreSaid W V) := fun W h => by rw [HK.out, ← HMM.out]; exact more_any U hpl a1 cap1 q W hq6 ((RQ.below h (Nat.le_refl _)).more h.size)
  have CRS : Hid (∀ W, Rd W w3.heap.size A X → Calls Try.prog 8 #[.slice A n c] W fun e w' => e = .returned (.int .u32 (V : Nat)) ∧ W = w') := crs
  have CSP : Hid (∀ W, Below w.heap.size w W → Calls Try.prog 7 #[.slice a0 m cap0] W (MoreSaid W U)) := csp
  have CMP : Hid (∀ W, Below w.heap.size w W → Calls Try.prog 9 #[.int .u32 0, .slice a0 m cap0] W (MoreSaid W U)) := cmp
  have CMQ : Hid (∀ W, Below w.heap.size w W → Calls Try.prog 9 #[.int .u32 (U : Nat), .slice a1 k cap1] W (MoreSaid W V)) := cmq
  clear crs csp cmp cmq RP RQ
  refine c1.mono ?_
  rintro e w4 ⟨rfl, D4⟩
  have B4 := B2.trans (D4.mono B2.size)
  have R4 := RA.below D4 (Nat.le_refl _)
  clear c1
  go_wp2_with fail
  refine (CRS.out w4 R4).mono ?_
  rintro e w' ⟨rfl, rfl⟩
  go_wp2_with fail
  refine (CSP.out w4 B4).mono ?_
  rintro e w5 ⟨rfl, D5⟩
  have B5 := B4.trans (D5.mono B4.size)
  have E5 := D4.trans (D5.mono D4.size)
  go_wp2_with fail
  refine (CMQ.out w5 B5).mono ?_
  rintro e w6 ⟨rfl, D6⟩
  have B6 := B5.trans (D6.mono B5.size)
  have E6 := E5.trans (D6.mono E5.size)
  have R6 := RA.below E6 (Nat.le_refl _)
  go_wp2_with fail
  refine (CRS.out w6 R6).mono ?_
  rintro e w' ⟨rfl, rfl⟩
  go_wp2_with fail
  refine (CMP.out w6 B6).mono ?_
  rintro e w7 ⟨rfl, D7⟩
  have B7 := B6.trans (D7.mono B6.size)
  go_wp2_with fail
  refine (CSP.out w7 B7).mono ?_
  rintro e w8 ⟨rfl, D8⟩
  have B8 := B7.trans (D8.mono B7.size)
  go_wp2_with fail
  go_ret
  exact ⟨rfl, B8⟩

set_option maxRecDepth 100000 in
theorem lifted (os : Os) (started : os.Started) (H : Type) (enc : TypeId × Value → H) :
    ReturnsInHanded {} Try.checked os 3 .any (Rows.tallySumsSpec.pre6 enc Try.prog Try.f3 Rows.tallySumsRow.domain false) (Rows.tallySumsSpec.post enc Try.prog Try.f3 false true false false) := by
  refine returnsInHanded_of_change (C := Try.checked) own started (by kernel_rfl) Try.func3
    (ChangeSpec.witness6 (enc := enc) (C := Try.checked) false ⟨#[], #[.slice none 0 0, .slice none 0 0], []⟩ 8 (by kernel_rfl) (by kernel_rfl) (by kernel_rfl) (by kernel_rfl)) ?_
  intro W base args ds gs before hval0 hW hcnd _
  have hval : ∀ (j : Nat) t v, Try.f3.params[j]? = some t → args[j]? = some v → Value.okWide Try.prog W .any base t v := hval0
  have hW' := hW
  obtain ⟨p, q, hA0, hV, rfl, hfz, hnd⟩ := hW
  have hA : DataW.TrodAll enc Try.prog W 0 (fun _ => true) true Try.f3.params.toList args.toList ds p := hA0
  rw [Try.params3] at hA hval
  obtain ⟨v0, vs0, d0, ds0, p0, q0, hargs, rfl, rfl, h0, r0⟩ := trodAll_cons hA
  obtain ⟨v1, vs1, d1, ds1, p1, q1, rfl, rfl, rfl, h1, r1⟩ := trodAll_cons r0
  obtain ⟨rfl, rfl, rfl⟩ := trodAll_nil r1
  obtain rfl : args = #[v0, v1] := by cases args; simp_all
  obtain ⟨rfl, rfl⟩ := trodVars_none hV
  obtain ⟨a0, len0, cap0, rfl⟩ := okWide_slice Try.underlying22 (hval 0 22 v0 rfl rfl)
  have k0 := h0
  have lt0 : ∀ x ∈ p0, x.block < W.heap.size := by obtain ⟨m, hm⟩ := k0; exact DataW.trod_lt m _ _ _ hm
  obtain ⟨z0, w0⟩ : ∃ zs, IsRow .u8 W a0 len0 cap0 zs := by
    obtain ⟨fuel, hf⟩ := h0
    rcases open_ints Try.underlying22 Try.underlying5 (by kernel_rfl) hf with ⟨hcs, _⟩ | ⟨x, l, c, zs, hcs, _, hl, hm, hz, _, hcell, hwz⟩
    · simp [Value.cells] at hcs
      obtain ⟨rfl, rfl, rfl⟩ := hcs
      exact ⟨[], .inl ⟨rfl, rfl, rfl, rfl⟩⟩
    · simp [Value.cells] at hcs
      obtain ⟨rfl, rfl, rfl⟩ := hcs
      exact ⟨zs, .inr ⟨_, rfl, hl, hm, by simpa using hz, hcell, hwz⟩⟩
  obtain ⟨a1, len1, cap1, rfl⟩ := okWide_slice Try.underlying22 (hval 1 22 v1 rfl rfl)
  have k1 := h1
  have lt1 : ∀ x ∈ p1, x.block < W.heap.size := by obtain ⟨m, hm⟩ := k1; exact DataW.trod_lt m _ _ _ hm
  obtain ⟨z1, w1⟩ : ∃ zs, IsRow .u8 W a1 len1 cap1 zs := by
    obtain ⟨fuel, hf⟩ := h1
    rcases open_ints Try.underlying22 Try.underlying5 (by kernel_rfl) hf with ⟨hcs, _⟩ | ⟨x, l, c, zs, hcs, _, hl, hm, hz, _, hcell, hwz⟩
    · simp [Value.cells] at hcs
      obtain ⟨rfl, rfl, rfl⟩ := hcs
      exact ⟨[], .inl ⟨rfl, rfl, rfl, rfl⟩⟩
    · simp [Value.cells] at hcs
      obtain ⟨rfl, rfl, rfl⟩ := hcs
      exact ⟨zs, .inr ⟨_, rfl, hl, hm, by simpa using hz, hcell, hwz⟩⟩
  clear hA0 hval0
  refine (walk a0 len0 cap0 z0 a1 len1 cap1 z1 W w0 w1).mono fun e W' ⟨he, bel⟩ => ?_
  subst he
  exact ⟨_, rfl, _, _, _, [], _, [], hW', trodAll_mk1 (shut_bool Try.underlying4 _), (trodAll_cons_mk (Below.trod laidOut (by kernel_rfl) (of_decide_eq_true (by kernel_rfl)) k0 bel lt0) (trodAll_cons_mk (Below.trod laidOut (by kernel_rfl) (of_decide_eq_true (by kernel_rfl)) k1 bel lt1) trodAll_mk0)), rfl, bel.frame _, fun h => by cases h⟩

theorem over : Rows.tallySumsRow.holds Try.pinned (OpenSpec.ofChange Rows.tallySumsSpec) :=
  OpenClaim.holds_of_wide 3 Try.f3 rfl rfl rfl rfl rfl rfl rfl ⟨rfl, rfl, rfl, rfl, rfl⟩ rfl rfl rfl rfl rfl (by kernel_rfl) Try.func3 (by kernel_rfl)
    (of_decide_eq_true (by kernel_rfl)) (by unfold Func.isWrapper; first | (rw [if_pos (by decide +kernel)]; kernel_rfl) | (rw [if_neg (by decide +kernel)]; exact ⟨rfl, rfl⟩))
    (fun os started H enc _ => lifted os started H enc)

theorem proved : Rows.TallySumsSaid := over
#print axioms proved
end Go.Proofs.Ytpmjkniohnhkbaa.tallySums
