/-
  'For every input the Go function milestonelaw01.PrefixTexts returns true, and each argument reads behind the call as it read before.'
  Conditions: none but the row's own (linux/amd64, sizes of what is read within the address space).
-/
import Derived.Test.YtdfphpoakihkdaaDoorRows
import Derived.WalkKit
import Derived.ProofKit
import Derived.OpenShut
import Derived.ShutString
import Derived.ChangeOld
import Derived.Below
import Derived.Lib.SmallJoins
import Derived.Lib.Hide
import Derived.Test.YtdfphpoakihkdaaDoorBack
import Derived.Test.YtdfphpoakihkdaaDoorLaid
import Derived.Test.YtdfphpoakihkdaaDoorCards
import Derived.Test.YtdfphpoakihkdaaDoorTie
import Derived.SevenTiedAt
namespace Go.Proofs.YtdfphpoakihkdaaDoor.prefixTexts
open Pre
open Go.Sort
open Go.ChangeShapes Go.WideShapes Go.ChangeAt Go.RowKit
open Go.ChangeMaps (open_string shut_string)
set_option linter.unusedVariables false

theorem own : ownKnob Tryd.prog.godebug = none := by kernel_rfl
theorem laidOut : laidOutB Tryd.prog = true := by kernel_rfl

set_option maxHeartbeats 2000000 in
theorem walk (a0 : Int) (a1 : Int) (w : World) (w0 : (Lit.int .u32 a0).wf = true) (w1 : (Lit.int .u8 a1).wf = true) (hp : Pow w) :
    Calls Tryd.prog 7 #[.int .u32 a0, .int .u8 a1] w fun e w' => e = .returned (.bool true) ∧ Below w.heap.size w w' := by
  have b0 := bounds_u32 w0
  have b1 := bounds_u8 w1
  clear w0 w1
  obtain ⟨a, rfl⟩ := Int.eq_ofNat_of_zero_le b0.1
  obtain ⟨n, rfl⟩ := Int.eq_ofNat_of_zero_le b1.1
  have ha : a < 4294967296 := by omega
  have hn : n ≤ 255 := by omega
  clear b0 b1
  have hrt := right_top a n
  have hN := len_le n
  have hP := top_lt (a := a) (n := n) ha
  go_enter Tryd.func7, Tryd.ntmps7
  go_wp2_with fail
  refine (rof_any a n ha hn _).mono ?_
  rintro e w1 ⟨rfl, hb1⟩
  generalize top a n = P at *
  generalize len n = N at *
  have hTx := fun w h => text_any P N (by omega) (by omega) w h
  have hPa := fun w h => parse_text P N hP (by omega) hrt w h
  have hRt := fun w => rtext_any P N hP (by omega) w
  have HS := Lib.hid (text_size P N hP (by omega))
  generalize (⟨(text P N).toArray⟩ : ByteArray) = t at *
  have z1 : w.heap.size ≤ w1.heap.size := hb1.size
  have hw1 : Below w.heap.size w (w1.alloc (.cells #[.int .u32 (P : Nat), .int .u8 (N : Nat)] 24)) := hb1.alloc z1 _
  have hp1 : Pow (w1.alloc (.cells #[.int .u32 (P : Nat), .int .u8 (N : Nat)] 24)) := pow_below hp hw1 (pow_size hp)
  go_wp2_with fail
  refine (hTx _ hp1).mono ?_
  rintro e w2 ⟨rfl, hb2⟩
  obtain ⟨hc2, _⟩ := bcell hb2
  have z2 : w1.heap.size < w2.heap.size := Nat.lt_of_lt_of_le (by simp) hb2.size
  have hw2 : Below w.heap.size w w2 := bstep hw1 hb2
  have hp2 : Pow w2 := pow_below hp hw2 (pow_size hp)
  go_wp2_with fail
  refine (hPa _ hp2).mono ?_
  rintro e w3 ⟨rfl, hb3⟩
  obtain ⟨hc3, _⟩ := bcell hb3
  have z3 : w1.heap.size < w3.heap.size := Nat.lt_of_lt_of_le z2 hb3.size
  have hw3 : Below w.heap.size w w3 := bstep hw2 hb3
  have d0 : (w3.alloc (.cells #[.int .u32 (P : Nat), .int .u8 (N : Nat)] 24)).cell? ⟨w1.heap.size, 0, none⟩ = some (.int .u32 P) := by
    rw [World.cell?_alloc_past _ _ _ z3, hc3 _ _ z2, hc2 _ _ (by simp)]; simp [go_sem]
  have d1 : (w3.alloc (.cells #[.int .u32 (P : Nat), .int .u8 (N : Nat)] 24)).cell? ⟨w1.heap.size, 1, none⟩ = some (.int .u8 N) := by
    rw [World.cell?_alloc_past _ _ _ z3, hc3 _ _ z2, hc2 _ _ (by simp)]; simp [go_sem]
  have d2 : (w3.alloc (.cells #[.int .u32 (P : Nat), .int .u8 (N : Nat)] 24)).cell? ⟨w3.heap.size, 0, none⟩ = some (.int .u32 P) := by simp [go_sem]
  have d3 : (w3.alloc (.cells #[.int .u32 (P : Nat), .int .u8 (N : Nat)] 24)).cell? ⟨w3.heap.size, 1, none⟩ = some (.int .u8 N) := by simp [go_sem]
  have hW : Below w.heap.size w (w3.alloc (.cells #[.int .u32 (P : Nat), .int .u8 (N : Nat)] 24)) := hw3.alloc (by have := hw3.size; omega) _
  have hpW : Pow (w3.alloc (.cells #[.int .u32 (P : Nat), .int .u8 (N : Nat)] 24)) := pow_below hp hW (pow_size hp)
  go_wp2_with fail
  generalize w3.alloc (.cells #[.int .u32 (P : Nat), .int .u8 (N : Nat)] 24) = W at *
  generalize w1.heap.size = g1 at *
  generalize w3.heap.size = g2 at *
  clear hc2 hc3 hb1 hb2 hb3 hw1 hw2 hw3 hp1 hp2 hTx hPa
  obtain ⟨V, dv, ov, hdo, e0, e1, e2, e3, hW', hpW'⟩ : ∃ V dv ov, W = grow (redrawn V dv) ov ∧ V.cell? ⟨g1, 0, none⟩ = some (.int .u32 P) ∧ V.cell? ⟨g1, 1, none⟩ = some (.int .u8 N) ∧ V.cell? ⟨g2, 0, none⟩ = some (.int .u32 P) ∧ V.cell? ⟨g2, 1, none⟩ = some (.int .u8 N) ∧ Below w.heap.size w V ∧ Pow V := ⟨W, W.drawn, #[], by rw [grow_empty]; rfl, d0, d1, d2, d3, hW, hpW⟩
  clear d0 d1 d2 d3 hW hpW
  subst hdo
  have k0 := cell_regrown e0
  have k1 := cell_regrown e1
  have k2 := cell_regrown e2
  have k3 := cell_regrown e3
  clear e0 e1 e2 e3
  have cA : ∀ d os, Calls Tryd.prog 11 #[] (grow (redrawn V d) os) fun e w'' => e = .returned (.bool true) ∧ ∃ p : Regrown, w'' = grow (redrawn V p.d) p.os := fun d os => Calls.regrown_of (awake_any _ (pow_below hpW' (below_regrown V d os) (pow_size hpW')))
  have cR := fun d os => Calls.regrown_of (w := V) (d := d) (os := os) (hRt _)
  clear hRt
  go_wp2_with (first
    | (go_at_call 11; refine (cA _ _).mono ?_; rintro e w' ⟨rfl, ⟨d', o'⟩, rfl⟩)
    | (go_at_call 25; refine (cR _ _).mono ?_; rintro e w' ⟨rfl, ⟨d', o'⟩, rfl⟩))
  go_ret
  exact ⟨rfl, bstep hW' (below_regrown V _ _)⟩

set_option maxRecDepth 100000 in
theorem lifted (os : Os) (started : os.Started) (H : Type) (enc : TypeId × Value → H) :
    ReturnsInHanded {} Tryd.checked os 7 .any (fun w args => (Rows.prefixTextsSpec.pre enc Tryd.prog Tryd.f7 Rows.prefixTextsRow.domain false w args ∧ laidMet Tryd.prog Rows.prefixTextsRow.laid w) ∧ sizedMet enc Tryd.prog Tryd.f7 (OpenSpec.ofChange Rows.prefixTextsSpec) false w args)
      (Rows.prefixTextsSpec.post enc Tryd.prog Tryd.f7 false true false false) := by
  refine returnsInHanded_of_change_and (C := Tryd.checked) (X := fun w _ => laidMet Tryd.prog Rows.prefixTextsRow.laid w) (fun _ _ _ hh h => h.of_heap hh) own started (by kernel_rfl) Tryd.func7
    (ChangeSpec.witness_at (enc := enc) (C := Tryd.checked) (os := os) (X := fun w _ => laidMet Tryd.prog Rows.prefixTextsRow.laid w) false (laidWorld os) #[.int .u32 0, .int .u8 0] 8 rfl (by kernel_rfl) (by kernel_rfl) (by kernel_rfl) (by kernel_rfl) (by kernel_rfl) (laid_met os _)) ?_
  intro W base args ds gs before hval0 hW hcnd _ hL _
  have hval : ∀ (j : Nat) t v, Tryd.f7.params[j]? = some t → args[j]? = some v → Value.okWide Tryd.prog W .any base t v := hval0
  have hW' := hW
  obtain ⟨p, q, hA0, hV, rfl, hfz, hnd⟩ := hW
  have hA : DataW.TrodAll enc Tryd.prog W 0 (fun _ => true) true Tryd.f7.params.toList args.toList ds p := hA0
  rw [Tryd.params7] at hA hval
  obtain ⟨v0, vs0, d0, ds0, p0, q0, hargs, rfl, rfl, h0, r0⟩ := trodAll_cons hA
  obtain ⟨v1, vs1, d1, ds1, p1, q1, rfl, rfl, rfl, h1, r1⟩ := trodAll_cons r0
  obtain ⟨rfl, rfl, rfl⟩ := trodAll_nil r1
  obtain rfl : args = #[v0, v1] := by cases args; simp_all
  obtain ⟨rfl, rfl⟩ := trodVars_none hV
  obtain ⟨a0, rfl, rfl, rfl, w0⟩ := open_int Tryd.underlying22 (hval 0 22 v0 rfl rfl) h0
  obtain ⟨a1, rfl, rfl, rfl, w1⟩ := open_int Tryd.underlying5 (hval 1 5 v1 rfl rfl) h1
  clear hA0 hval0
  refine (walk a0 a1 W w0 w1 (pow_of_laid hL)).mono fun e W' ⟨he, bel⟩ => ?_
  subst he
  exact ⟨_, rfl, _, _, _, [], _, [], hW', trodAll_mk1 (shut_bool Tryd.underlying4 _), (trodAll_cons_mk (shut_int Tryd.underlying22 w0) (trodAll_cons_mk (shut_int Tryd.underlying5 w1) trodAll_mk0)), rfl, bel.frame _, fun h => by cases h⟩

theorem over : Rows.prefixTextsRow.holds Tryd.pinned (OpenSpec.ofChange Rows.prefixTextsSpec) :=
  OpenClaim.holds_of_wide 7 Tryd.f7 rfl rfl rfl rfl rfl rfl rfl ⟨rfl, rfl, rfl, rfl, rfl⟩ rfl rfl rfl rfl rfl (by kernel_rfl) Tryd.func7 (by kernel_rfl)
    (of_decide_eq_true (by kernel_rfl)) (by unfold Func.isWrapper; first | (rw [if_pos (by decide +kernel)]; kernel_rfl) | (rw [if_neg (by decide +kernel)]; exact ⟨rfl, rfl⟩))
    (fun os started H enc _ => lifted os started H enc)

theorem proved : Rows.PrefixTextsCardSaid :=
  Claim7.holds_tied_plain_at .later [] [.data, .data, .data] true (true, "7cfdeb993fdfbec8b9b5e67db3be9459c695c22a0ecd678560527101ee5685f7") false
    over (fun _ h => by cases h) (by kernel_rfl) (fun _ h => by cases h) prefixTexts_row_tie rfl ⟨rfl, rfl⟩ (by kernel_rfl) rfl
    (fun f fn hf hfn => by
      obtain rfl : f = 7 := Option.some.inj ((show Tryd.prog.funcNamed "milestone/milestonelaw01.PrefixTexts" = some 7 by kernel_rfl).symm.trans hf) |>.symm
      obtain rfl : fn = Tryd.f7 := (Option.some.inj (Tryd.func7.symm.trans hfn)).symm
      exact ⟨by kernel_rfl, fun j t ht => by
        rw [Tryd.params7] at ht
        have hm : t ∈ [22, 5] := by simpa using Array.mem_of_getElem? ht
        have hall : ([22, 5].all fun u => !Tryd.prog.wantsStandIn u) = true := by kernel_rfl
        exact (show Tryd.prog.wantsStandIn t = false by simpa using List.all_eq_true.1 hall t hm)⟩)
    (by kernel_rfl)
#print axioms proved
end Go.Proofs.YtdfphpoakihkdaaDoor.prefixTexts
