/-
  'For every input the Go function milestonelaw01.PrefixOf returns true, and each argument reads behind the call as it read before.'
  Conditions: none but the row's own (linux/amd64, sizes of what is read within the address space).
-/
import Derived.Test.YtdfphpoakihkdaaDoorRows
import Derived.WalkKit
import Derived.ProofKit
import Derived.OpenShut
import Derived.ShutString
import Derived.ChangeOld
import Derived.Below
import Derived.Lib.SmallJoins
import Derived.Lib.Hide
import Derived.Test.YtdfphpoakihkdaaDoorAw
import Derived.Test.YtdfphpoakihkdaaDoorLaid
import Derived.Test.YtdfphpoakihkdaaDoorCards
import Derived.Test.YtdfphpoakihkdaaDoorTie
import Derived.SevenTiedAt
namespace Go.Proofs.YtdfphpoakihkdaaDoor.prefixOf
open Pre
open Go.Sort
open Go.ChangeShapes Go.WideShapes Go.ChangeAt Go.RowKit
open Go.ChangeMaps (open_string shut_string)
set_option linter.unusedVariables false

theorem own : ownKnob Tryd.prog.godebug = none := by kernel_rfl
theorem laidOut : laidOutB Tryd.prog = true := by kernel_rfl

theorem walk (a0 : Int) (a1 : Int) (a2_0 a2_1 : Int) (w : World) (w0 : (Lit.int .u32 a0).wf = true) (w1 : (Lit.int .u8 a1).wf = true) (w2_0 : (Lit.int .u32 a2_0).wf = true) (w2_1 : (Lit.int .u8 a2_1).wf = true) (hp : Pow w) :
    Calls Tryd.prog 3 #[.int .u32 a0, .int .u8 a1, .agg #[.int .u32 a2_0, .int .u8 a2_1]] w fun e w' => e = .returned (.bool true) ∧ Below w.heap.size w w' := by
  have b0 := bounds_u32 w0
  have b1 := bounds_u8 w1
  have b2 := bounds_u32 w2_0
  have b3 := bounds_u8 w2_1
  clear w0 w1 w2_0 w2_1
  obtain ⟨a, rfl⟩ := Int.eq_ofNat_of_zero_le b0.1
  obtain ⟨n, rfl⟩ := Int.eq_ofNat_of_zero_le b1.1
  obtain ⟨p, rfl⟩ := Int.eq_ofNat_of_zero_le b2.1
  obtain ⟨m, rfl⟩ := Int.eq_ofNat_of_zero_le b3.1
  have ha : a < 4294967296 := by omega
  have hn : n ≤ 255 := by omega
  have hpb : p < 4294967296 := by omega
  have hm : m ≤ 255 := by omega
  clear b0 b1 b2 b3
  have hrt : right (top a n) (len n) = true := right_top a n
  have hll := len_le n
  have htl := top_lt (a := a) (n := n) ha
  go_enter Tryd.func3, Tryd.ntmps3
  go_wp2_with (go_at_call 10; refine (of_any a n ha hn _).mono ?_; rintro e w1 ⟨rfl, hb⟩)
  have hz := hb.size
  simp at hz
  obtain ⟨hc, _⟩ := bcell hb
  have c0 : w1.cell? ⟨w.heap.size, 0, none⟩ = some (.int .u32 p) := by rw [hc _ _ (by simp)]; simp [go_sem]
  have c1 : w1.cell? ⟨w.heap.size, 1, none⟩ = some (.int .u8 m) := by rw [hc _ _ (by simp)]; simp [go_sem]
  have hw1 : Below w.heap.size w w1 := bstep ((Below.refl _ _).alloc (Nat.le_refl _) _) hb
  have hp1 : Pow w1 := pow_below hp hw1 (pow_size hp)
  have d0 : (w1.alloc (.cells #[.int .u32 (top a n : Nat), .int .u8 (len n : Nat)] 24)).cell? ⟨w.heap.size, 0, none⟩ = some (.int .u32 p) := by rw [World.cell?_alloc_past _ _ _ (by omega)]; exact c0
  have d1 : (w1.alloc (.cells #[.int .u32 (top a n : Nat), .int .u8 (len n : Nat)] 24)).cell? ⟨w.heap.size, 1, none⟩ = some (.int .u8 m) := by rw [World.cell?_alloc_past _ _ _ (by omega)]; exact c1
  have d2 : (w1.alloc (.cells #[.int .u32 (top a n : Nat), .int .u8 (len n : Nat)] 24)).cell? ⟨w1.heap.size, 0, none⟩ = some (.int .u32 (top a n : Nat)) := by simp [go_sem]
  have d3 : (w1.alloc (.cells #[.int .u32 (top a n : Nat), .int .u8 (len n : Nat)] 24)).cell? ⟨w1.heap.size, 1, none⟩ = some (.int .u8 (len n : Nat)) := by simp [go_sem]
  have hW : Below w.heap.size w (w1.alloc (.cells #[.int .u32 (top a n : Nat), .int .u8 (len n : Nat)] 24)) := hw1.alloc (by omega) _
  have hpW : Pow (w1.alloc (.cells #[.int .u32 (top a n : Nat), .int .u8 (len n : Nat)] 24)) := pow_below hp hW (pow_size hp)
  generalize (w1.alloc (.cells #[.int .u32 (top a n : Nat), .int .u8 (len n : Nat)] 24)) = W at *
  have k0 := cell_regrown d0
  have k1 := cell_regrown d1
  have k2 := cell_regrown d2
  have k3 := cell_regrown d3
  clear hc hb c0 c1 d0 d1 d2 d3 hw1 hp1
  have cA : ∀ d os, Calls Tryd.prog 11 #[] (grow (redrawn W d) os) fun e w'' => e = .returned (.bool true) ∧ ∃ p : Regrown, w'' = grow (redrawn W p.d) p.os := fun d os => Calls.regrown_of (awake_any _ (pow_below hpW (below_regrown W d os) (pow_size hpW)))
  have cO : ∀ d os, Calls Tryd.prog 12 #[.int .u32 a, .int .u8 n] (grow (redrawn W d) os) fun e w'' => e = .returned (.agg #[.int .u32 (top a n : Nat), .int .u8 (len n : Nat)]) ∧ ∃ p : Regrown, w'' = grow (redrawn W p.d) p.os := fun d os => Calls.regrown_of (rof_any a n ha hn _)
  have cQ : ∀ d os, Calls Tryd.prog 13 #[.agg #[.int .u32 (top a n : Nat), .int .u8 (len n : Nat)]] (grow (redrawn W d) os) fun e w'' => e = .returned (.bool true) ∧ ∃ p : Regrown, w'' = grow (redrawn W p.d) p.os := fun d os => Calls.regrown_of (by rw [← hrt]; exact right_any _ _ htl (by omega) _)
  have cR : ∀ d os, Calls Tryd.prog 13 #[.agg #[.int .u32 p, .int .u8 m]] (grow (redrawn W d) os) fun e w'' => e = .returned (.bool (right p m)) ∧ ∃ p : Regrown, w'' = grow (redrawn W p.d) p.os := fun d os => Calls.regrown_of (right_any p m hpb hm _)
  have cS : ∀ d os, Calls Tryd.prog 14 #[.agg #[.int .u32 p, .int .u8 m]] (grow (redrawn W d) os) fun e w'' => e = .returned (.bool (right p m)) ∧ ∃ p : Regrown, w'' = grow (redrawn W p.d) p.os := fun d os => Calls.regrown_of (rright_any p m hpb hm _)
  have HRT := Lib.hid hrt
  clear hrt
  refine wp_region_quiet_below (by kernel_rfl) (by kernel_rfl) ?_
  repeat (quiet_step (first | with_reducible exact cA _ _ | with_reducible exact cO _ _ | with_reducible exact cQ _ _ | with_reducible exact cR _ _ | with_reducible exact cS _ _))
  refine wpQuiet_nil ?_
  intro _ hw'
  obtain ⟨⟨dq, osq⟩, hw''⟩ := hw'
  subst hw''
  go_wp2
  go_ret
  exact ⟨rfl, bstep hW (below_regrown W dq osq)⟩

set_option maxRecDepth 100000 in
theorem lifted (os : Os) (started : os.Started) (H : Type) (enc : TypeId × Value → H) :
    ReturnsInHanded {} Tryd.checked os 3 .any (fun w args => (Rows.prefixOfSpec.pre enc Tryd.prog Tryd.f3 Rows.prefixOfRow.domain false w args ∧ laidMet Tryd.prog Rows.prefixOfRow.laid w) ∧ sizedMet enc Tryd.prog Tryd.f3 (OpenSpec.ofChange Rows.prefixOfSpec) false w args)
      (Rows.prefixOfSpec.post enc Tryd.prog Tryd.f3 false true false false) := by
  refine returnsInHanded_of_change_and (C := Tryd.checked) (X := fun w _ => laidMet Tryd.prog Rows.prefixOfRow.laid w) (fun _ _ _ hh h => h.of_heap hh) own started (by kernel_rfl) Tryd.func3
    (ChangeSpec.witness_at (enc := enc) (C := Tryd.checked) (os := os) (X := fun w _ => laidMet Tryd.prog Rows.prefixOfRow.laid w) false (laidWorld os) #[.int .u32 0, .int .u8 0, .agg #[.int .u32 0, .int .u8 0]] 8 rfl (by kernel_rfl) (by kernel_rfl) (by kernel_rfl) (by kernel_rfl) (by kernel_rfl) (laid_met os _)) ?_
  intro W base args ds gs before hval0 hW hcnd _ hL _
  have hval : ∀ (j : Nat) t v, Tryd.f3.params[j]? = some t → args[j]? = some v → Value.okWide Tryd.prog W .any base t v := hval0
  have hW' := hW
  obtain ⟨p, q, hA0, hV, rfl, hfz, hnd⟩ := hW
  have hA : DataW.TrodAll enc Tryd.prog W 0 (fun _ => true) true Tryd.f3.params.toList args.toList ds p := hA0
  rw [Tryd.params3] at hA hval
  obtain ⟨v0, vs0, d0, ds0, p0, q0, hargs, rfl, rfl, h0, r0⟩ := trodAll_cons hA
  obtain ⟨v1, vs1, d1, ds1, p1, q1, rfl, rfl, rfl, h1, r1⟩ := trodAll_cons r0
  obtain ⟨v2, vs2, d2, ds2, p2, q2, rfl, rfl, rfl, h2, r2⟩ := trodAll_cons r1
  obtain ⟨rfl, rfl, rfl⟩ := trodAll_nil r2
  obtain rfl : args = #[v0, v1, v2] := by cases args; simp_all
  obtain ⟨rfl, rfl⟩ := trodVars_none hV
  obtain ⟨a0, rfl, rfl, rfl, w0⟩ := open_int Tryd.underlying22 (hval 0 22 v0 rfl rfl) h0
  obtain ⟨a1, rfl, rfl, rfl, w1⟩ := open_int Tryd.underlying5 (hval 1 5 v1 rfl rfl) h1
  have k2 := h2
  have lt2 : ∀ x ∈ p2, x.block < W.heap.size := by obtain ⟨m, hm⟩ := k2; exact DataW.trod_lt m _ _ _ hm
  obtain ⟨c2_0, c2_1, y2_0, y2_1, m2, rfl, hd2, hp2, hy2_0, hy2_1⟩ := Joins.open_agg2 Tryd.underlying24 (by kernel_rfl) (show Tryd.prog.cellsOf 24 = 2 by kernel_rfl) (hval 2 24 v2 rfl rfl) h2
  obtain ⟨a2_0, e2_0, _, w2_0⟩ := DataW.trod_int Tryd.underlying22 hy2_0
  simp only [List.cons.injEq, and_true] at e2_0
  subst e2_0
  obtain ⟨a2_1, e2_1, _, w2_1⟩ := DataW.trod_int Tryd.underlying5 hy2_1
  simp only [List.cons.injEq, and_true] at e2_1
  subst e2_1
  clear hA0 hval0
  refine (walk a0 a1 a2_0 a2_1 W w0 w1 w2_0 w2_1 (pow_of_laid hL)).mono fun e W' ⟨he, bel⟩ => ?_
  subst he
  exact ⟨_, rfl, _, _, _, [], _, [], hW', trodAll_mk1 (shut_bool Tryd.underlying4 _), (trodAll_cons_mk (shut_int Tryd.underlying22 w0) (trodAll_cons_mk (shut_int Tryd.underlying5 w1) (trodAll_cons_mk (Below.trod laidOut (by kernel_rfl) (of_decide_eq_true (by kernel_rfl)) k2 bel lt2) trodAll_mk0))), rfl, bel.frame _, fun h => by cases h⟩

theorem over : Rows.prefixOfRow.holds Tryd.pinned (OpenSpec.ofChange Rows.prefixOfSpec) :=
  OpenClaim.holds_of_wide 3 Tryd.f3 rfl rfl rfl rfl rfl rfl rfl ⟨rfl, rfl, rfl, rfl, rfl⟩ rfl rfl rfl rfl rfl (by kernel_rfl) Tryd.func3 (by kernel_rfl)
    (of_decide_eq_true (by kernel_rfl)) (by unfold Func.isWrapper; first | (rw [if_pos (by decide +kernel)]; kernel_rfl) | (rw [if_neg (by decide +kernel)]; exact ⟨rfl, rfl⟩))
    (fun os started H enc _ => lifted os started H enc)

theorem proved : Rows.PrefixOfCardSaid :=
  Claim7.holds_tied_plain_at .later [] [.data, .data, .data] true (true, "7cfdeb993fdfbec8b9b5e67db3be9459c695c22a0ecd678560527101ee5685f7") false
    over (fun _ h => by cases h) (by kernel_rfl) (fun _ h => by cases h) prefixOf_row_tie rfl ⟨rfl, rfl⟩ (by kernel_rfl) rfl
    (fun f fn hf hfn => by
      obtain rfl : f = 3 := Option.some.inj ((show Tryd.prog.funcNamed "milestone/milestonelaw01.PrefixOf" = some 3 by kernel_rfl).symm.trans hf) |>.symm
      obtain rfl : fn = Tryd.f3 := (Option.some.inj (Tryd.func3.symm.trans hfn)).symm
      exact ⟨by kernel_rfl, fun j t ht => by
        rw [Tryd.params3] at ht
        have hm : t ∈ [22, 5, 24] := by simpa using Array.mem_of_getElem? ht
        have hall : ([22, 5, 24].all fun u => !Tryd.prog.wantsStandIn u) = true := by kernel_rfl
        exact (show Tryd.prog.wantsStandIn t = false by simpa using List.all_eq_true.1 hall t hm)⟩)
    (by kernel_rfl)
#print axioms proved
end Go.Proofs.YtdfphpoakihkdaaDoor.prefixOf
