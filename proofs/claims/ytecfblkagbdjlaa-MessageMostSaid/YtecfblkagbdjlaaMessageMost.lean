/-
  'For every input the Go function milestonelaw13.MessageMost returns true, and each argument reads behind the call as it read before.'
  Conditions: none but the row's own (linux/amd64, sizes of what is read within the address space).
-/
import Derived.Test.YtecfblkagbdjlaaRows
import Derived.WalkKit
import Derived.ProofKit
import Derived.OpenShut
import Derived.ShutString
import Derived.ChangeOld
import Derived.Below
import Derived.Lib.SmallJoins
import Derived.Lib.Hide
import Derived.Test.YtecfblkagbdjlaaMu
import Derived.WalkLawsBesides
import Derived.Deep.RegionHeld3
namespace Go.Proofs.Ytecfblkagbdjlaa.messageMost
open Go.Proofs.Ytecfblkagbdjlaa.Msg
open Coin (Own Rd CoinOwn)
open Go.ChangeShapes Go.WideShapes Go.ChangeAt Go.RowKit
open Go.ChangeMaps (open_string shut_string)
set_option linter.unusedVariables false

theorem own : ownKnob Try.prog.godebug = none := by kernel_rfl
theorem laidOut : laidOutB Try.prog = true := by kernel_rfl

set_option maxRecDepth 8000
def hi (i : Nat) : Pt := ⟨1, i, 0, 0, 0, 0, 0⟩
def his (k : Nat) : List Pt := (List.range k).map hi
theorem his_len (k : Nat) : (his k).length = k := by simp [his]
theorem his_succ (k : Nat) : his (k + 1) = his k ++ [hi k] := by simp [his, List.range_succ]
theorem his_fits {k : Nat} (hk : k ≤ 1000) : ∀ x ∈ his k, x.Fits := fun x hx => by
  simp [his] at hx
  obtain ⟨i, hik, rfl⟩ := hx
  constructor <;> (dsimp only [hi]; omega)
theorem his_rt {k : Nat} (hk : k ≤ 1000) : ∀ x ∈ his k, x.rt = true := fun x hx => by
  simp [his] at hx
  obtain ⟨i, hik, rfl⟩ := hx
  show Pt.rt ⟨1, i, 0, 0, 0, 0, 0⟩ = true
  unfold Pt.rt
  simp
  omega
theorem dec_his (k : Nat) (hk : k ≤ 1000) : dec (enc 1 (his k)) = (0, 1, kept (his k), 0) := dec_enc 1 (by decide) (his k) (his_fits hk)
theorem kept_his (k : Nat) (hk : k ≤ 1000) : (kept (his k)).length = min k 300 := by
  unfold kept
  rw [List.filter_eq_self.2 (his_rt hk), List.length_take, his_len]
  omega
theorem raw_his (k : Nat) (hk : k ≤ 1000) : dec (sealB ([1, 1] ++ (his k).flatMap Pt.bytes)) = if 300 < k then (6, 0, [], 0) else (0, 1, his k, 0) := by
  have h := dec_parts 1 (by decide) (his k) (his_fits hk) (his_rt hk)
  rw [his_len] at h
  exact h

set_option maxHeartbeats 4000000 in
theorem walk (a0 : Int) (w : World) (w0 : (Lit.int .u16 a0).wf = true) :
    Calls Try.prog 7 #[.int .u16 a0] w fun e w' => e = .returned (.bool true) ∧ Below w.heap.size w w' := by
  have b0 := bounds_u16 w0
  obtain ⟨n, rfl⟩ := Int.eq_ofNat_of_zero_le b0.1
  obtain ⟨k, hk⟩ : ∃ k, k = 295 + n % 10 := ⟨_, rfl⟩
  have hk1 : (n : Int).tmod 10 = ((n % 10 : Nat) : Int) := by rw [Int.tmod_eq_emod_of_nonneg (by omega)]; omega
  obtain ⟨m, hm⟩ : ∃ m, m = n % 10 := ⟨_, rfl⟩
  rw [← hm] at hk1 hk
  have hm10 : m < 10 := by omega
  have hk2 : (295 : Int) + (m : Int) = (k : Int) := by omega
  have hk3 : IntKind.i64.wrap (m : Int) = m := by rw [IntKind.wrap_i64]; omega
  have hk4 : IntKind.i64.wrap (n : Int) = n := by rw [IntKind.wrap_i64]; omega
  have hkl : k ≤ 304 := by omega
  have hkg : 295 ≤ k := by omega
  clear hm hk
  go_enter Try.func7, Try.ntmps7
  go_upto_region 3 with (go_at_call 12; (with_reducible refine (awake_any _).mono ?_); (rintro e w1 ⟨rfl, B1⟩; have HB1 := Lib.hid B1; clear B1))
  have HM0 := Lib.hid (Ms.start 1 w1 [1, 1] (by decide) #[.int .u8 1, .int .u8 1] rfl)
  go_upto_region 6 with (fail)
  generalize (w1.alloc _).alloc _ = w2 at *
  go_wp2
  go_loopw [5, 6] (fun r i wr => ∃ j : Nat, j ≤ k ∧ i = .int .i64 j ∧ ∃ vp, Hid (Ms 1 w1 wr vp r (his j) ([1, 1] ++ (his j).flatMap Pt.bytes))) (fun _ i _ => k - (intOf i).toNat)
  case atStart => exact ⟨0, by omega, rfl, _, HM0⟩
  case round =>
    obtain ⟨j, hj, rfl, vp, HM⟩ := hrel
    clear HM0
    obtain ⟨Ar, cr, hvr, -, -, -⟩ := HM.out.ro.form
    obtain ⟨Ap, cp, hvp, -⟩ := HM.out.po.form
    obtain ⟨mr, hmr⟩ : ∃ m, m = ([1, 1] ++ (his j).flatMap Pt.bytes).length := ⟨_, rfl⟩
    rw [his_len] at hvp
    rw [← hmr] at hvr
    have HMR := Lib.hid hmr
    clear hmr
    subst hvr hvp
    by_cases hlt : j < k
    · obtain ⟨⟨q0, q1⟩, f0, f1⟩ := row2b HM.out.row
      have eb := HM.out.lt
      have hwj : IntKind.u64.wrap (j : Int) = j := by rw [wrap_u64]; omega
      have B3 := (Below.refl wr.heap.size wr).alloc (Nat.le_refl _) (.cells #[.int .u8 1, .int .u64 (j : Int), .int .i64 0, .int .u32 0, .int .u8 0, .int .u16 0, .int .u16 0] 28)
      have hcp := cells_pt wr (hi j) wr.heap.size rfl #[.int .u8 1, .int .u64 (j : Int), .int .i64 0, .int .u32 0, .int .u8 0, .int .u16 0, .int .u16 0] rfl
      have HB := Lib.hid (And.intro (HM.out.step B3) (And.intro hcp (And.intro B3 HM.out.lt)))
      clear B3 hcp
      go_upto_region 10 with (at_builtin; (with_reducible refine app_pt rfl (.tmp 28) (.tmp 32) rfl (w1.heap.size + 1) (.slice Ap j cp) (his j) (hi j) wr.heap.size rfl rfl HB.out.1.po HB.out.2.1 (by rw [his_len]; omega) HB.out.1.le ?_); (intro v5 w5 O5 G5; obtain ⟨A5, c5, hv5, -⟩ := O5.form; rw [← his_succ] at hv5 O5; rw [his_len] at hv5; subst hv5; have HM5 := Lib.hid (HB.out.1.part O5 G5); have h1 := (G5.block _ HB.out.1.lt (fun e => by have := (HB.out.1.po.lt _ e.symm).1; omega)).trans HB.out.1.row; obtain ⟨⟨g0, g1⟩, f5, f6⟩ := row2b h1; have eb5 : w1.heap.size < w5.heap.size := (Array.getElem?_eq_some_iff.1 h1).1; clear O5 G5 h1 q0 q1 f0 f1))
      clear g0 g1 f5 f6 eb5
      generalize World.setCell _ _ _ = w6 at *
      obtain ⟨⟨q0, q1⟩, -⟩ := row2b HM5.out.row
      obtain ⟨Aq, cq, hvq, hpq⟩ := HM5.out.po.form
      rw [his_len] at hvq
      injection hvq with hA _ hc
      subst hA hc
      have hjl : j < (his (j + 1)).length := by rw [his_len]; omega
      obtain ⟨bb, oo, ea, hbb, hc0⟩ := hpq j hjl
      have hget : (his (j + 1))[j] = hi j := by simp [his]
      rw [hget] at hc0
      subst ea
      obtain ⟨d0, d1, d2, d3, d4, d5, d6⟩ := hc0
      have hrb := rbytes_any (hi j) (his_fits (k := j + 1) (by omega) _ (by rw [his_succ]; simp)) (his_rt (k := j + 1) (by omega) _ (by rw [his_succ]; simp)) w6
      have hrb : Calls Try.prog 11 #[.agg #[.int .u8 1, .int .u64 (j : Int), .int .i64 0, .int .u32 0, .int .u8 0, .int .u16 0, .int .u16 0]] w6 (CoinOwn w6 (hi j).bytes) := hrb
      have c0 : w6.cell? ⟨bb, oo + j * 7, none⟩ = some (.int .u8 1) := d0
      have c1 : w6.cell? ⟨bb, oo + j * 7 + 1, none⟩ = some (.int .u64 (j : Int)) := d1
      have c2 : w6.cell? ⟨bb, oo + j * 7 + 2, none⟩ = some (.int .i64 0) := d2
      have c3 : w6.cell? ⟨bb, oo + j * 7 + 3, none⟩ = some (.int .u32 0) := d3
      have c4 : w6.cell? ⟨bb, oo + j * 7 + 4, none⟩ = some (.int .u8 0) := d4
      have c5' : w6.cell? ⟨bb, oo + j * 7 + 5, none⟩ = some (.int .u16 0) := d5
      have c6 : w6.cell? ⟨bb, oo + j * 7 + 6, none⟩ = some (.int .u16 0) := d6
      have hjj : (j : Int) < ((j + 1 : Nat) : Int) := by omega
      have HRB := Lib.hid hrb
      have hfl : (his (j + 1)).flatMap Pt.bytes = (his j).flatMap Pt.bytes ++ (hi j).bytes := by rw [his_succ, List.flatMap_append]; simp
      have hll := flat_len (his j)
      rw [his_len] at hll
      have hbl := (hi j).bytes_len
      have HFL := Lib.hid (And.intro hfl (And.intro hll hbl))
      clear d0 d1 d2 d3 d4 d5 d6
      clear hrb hpq hbb hjl hget HB eb hfl hll hbl
      obtain ⟨j1, hj1⟩ : ∃ j1, j1 = j + 1 := ⟨_, rfl⟩
      have HJ1 := Lib.hid hj1
      rw [← hj1] at hjj ⊢
      clear hj1
      go_wp2_with (first
        | (go_at_call 11; (with_reducible refine HRB.out.mono ?_); (rintro e w9 ⟨v9, rfl, O9, B9⟩; obtain ⟨A9, c9, hv9, R9, -, hn9⟩ := O9.form; obtain ⟨m9, hm9⟩ : ∃ m, m = (hi j).bytes.length := ⟨_, rfl⟩; rw [← hm9] at hv9; subst hv9; have HM9 := Lib.hid (And.intro (HM5.out.step B9) (And.intro R9 (And.intro hm9 hn9))); clear O9 B9 R9 hm9 hn9))
        | (at_builtin; (with_reducible refine Coin.app_any rfl (.tmp 35) (.tmp 41) rfl (w1.heap.size + 1) (.slice Ar mr cr) ([1, 1] ++ (his j).flatMap Pt.bytes) (hi j).bytes A9 m9 c9 _ rfl rfl HM9.out.1.ro HM9.out.2.1 HM9.out.2.2.1 HM9.out.2.2.2 (by have h1 := HFL.out.2.1; have h2 := HFL.out.2.2; simp only [List.length_append, List.length_cons, List.length_nil]; omega) HM9.out.1.le (w1.heap.size + 1) w9 (Below.refl w9.heap.size w9 |>.mono HM9.out.1.le) (Nat.le_refl _) ?_); (intro v10 w10 O10 B10 G10; have HM10 := Lib.hid (HM9.out.1.more O10 G10); clear O10 B10 G10)))
      go_roundw
      case rel =>
        have e1 : ([1, 1] : List UInt8) ++ (his j).flatMap Pt.bytes ++ (hi j).bytes = [1, 1] ++ (his (j + 1)).flatMap Pt.bytes := by rw [HFL.out.1]; simp
        have h := HM10.out
        rw [e1] at h
        exact ⟨j + 1, by omega, by go_num, _, h⟩
      case measure => simp [intOf]; omega
    · obtain rfl : j = k := by omega
      have eb := HM.out.lt
      obtain ⟨⟨q0, q1⟩, -⟩ := row2b HM.out.row
      obtain ⟨Ap', cp', hvp, hps⟩ := HM.out.po.form
      rw [his_len] at hvp
      injection hvp with hA _ hc
      subst hA hc
      have hnr : Ar = none → cr = 0 := by
        obtain ⟨A', c', e', -, -, h'⟩ := HM.out.ro.form
        injection e' with e1 _ e3
        subst e1 e3
        exact h'
      have hen := enc_any wr 1 j cp Ap (his j) (by decide) (his_len j).symm (by omega) hps (his_fits (by omega))
      have hen : Calls Try.prog 9 #[.agg #[.int .i64 1, .slice Ap j cp]] wr (CoinOwn wr (enc 1 (his j))) := hen
      have hd1 := dec_his j (by omega)
      have hd2 := raw_his j (by omega)
      obtain ⟨q, hq⟩ : ∃ q, q = (kept (his j)).length := ⟨_, rfl⟩
      have hkp : q = min j 300 := by rw [hq, kept_his j (by omega)]
      have hl1 : (enc 1 (his j)).length ≤ 20000 := by unfold enc; rw [seal_len]; have := encB_len 1 (his j); omega
      have hll := flat_len (his j)
      rw [his_len] at hll
      have hl2 : ([1, 1] ++ (his j).flatMap Pt.bytes).length ≤ 20000 := by simp only [List.length_append, List.length_cons, List.length_nil]; omega
      have hdc : ∀ W A m cap, m = (enc 1 (his j)).length → Rd W W.heap.size A (enc 1 (his j)) → m ≤ cap → (A = none → cap = 0) → Calls Try.prog 16 #[.slice A m cap] W fun e w' => ∃ A' c', e = .returned (.tuple #[.agg #[.int .i64 1, .slice A' q c'], .int .i64 0, .int .i64 0]) ∧ Below W.heap.size W w' := fun W A m cap h1 h3 h4 h5 => by
        have h := dec_any A m cap (enc 1 (his j)) W h1 (by omega) h3 h4 h5
        rw [hd1] at h
        rw [hq]
        exact h.mono fun e w' ⟨A', c', h1, h2, h3⟩ => ⟨A', c', h1, h3⟩
      have hdr : ∀ W A m cap, m = (sealB ([1, 1] ++ (his j).flatMap Pt.bytes)).length → Rd W W.heap.size A (sealB ([1, 1] ++ (his j).flatMap Pt.bytes)) → m ≤ cap → (A = none → cap = 0) → Calls Try.prog 16 #[.slice A m cap] W fun e w' => ∃ (x y : Int) (n : Nat) (A' : Option Addr) (c' : Nat), e = .returned (.tuple #[.agg #[.int .i64 x, .slice A' n c'], .int .i64 0, .int .i64 y]) ∧ (y = if 300 < j then 6 else 0) ∧ Below W.heap.size W w' := fun W A m cap h1 h3 h4 h5 => by
        have h := dec_any A m cap _ W h1 (by rw [h1, seal_len]; omega) h3 h4 h5
        rw [hd2] at h
        refine h.mono fun e w' ⟨A', c', h1, h2, h3⟩ => ?_
        split at h1
        · rename_i hc; exact ⟨_, _, _, A', c', h1, by rw [if_pos hc]; rfl, h3⟩
        · rename_i hc; exact ⟨_, _, _, A', c', h1, by rw [if_neg hc]; rfl, h3⟩
      have hpk := fun W h => packet_any W Ar mr cr W.heap.size ([1, 1] ++ (his j).flatMap Pt.bytes) HMR.out (by have := HMR.out; omega) h (Nat.le_refl _) hnr
      generalize enc 1 (his j) = P at *
      generalize sealB _ = T at *
      have HN := Lib.hid (And.intro hen (And.intro hdc (And.intro hdr (And.intro hpk hkp))))
      clear hen hdc hdr hpk hkp hd1 hd2 hq hl1 hl2 hll hps hnr
      go_upto_region 12 with (first
        | (go_at_call 9; (with_reducible refine HN.out.1.mono ?_); (rintro e w6 ⟨v6, rfl, O6, B6⟩; obtain ⟨A6, c6, hv6, R6, hc6, hn6⟩ := O6.form; obtain ⟨m6, hm6⟩ : ∃ m, m = P.length := ⟨_, rfl⟩; rw [← hm6] at hv6 hc6; subst hv6; have HP6 := Lib.hid (And.intro R6 (And.intro hm6 (And.intro hc6 (And.intro hn6 (HM.out.step B6))))); clear O6 B6 R6 hm6 hc6 hn6 q0 q1 eb))
        | (go_at_call 16; (with_reducible refine (HN.out.2.1 _ A6 m6 c6 HP6.out.2.1 HP6.out.1 HP6.out.2.2.1 HP6.out.2.2.2.1).mono ?_); (rintro e w7 ⟨A7, c7, rfl, B7⟩; have HM7 := Lib.hid (HP6.out.2.2.2.2.step B7); clear B7)))
      have B8 := (Below.refl w7.heap.size w7).alloc (Nat.le_refl _) (.cells #[.int .i64 1, .slice A7 q c7] 34)
      have HM8 := Lib.hid (And.intro (HM7.out.step B8) (heap_alloc_new w7 (.cells #[.int .i64 1, .slice A7 q c7] 34)))
      clear B8 HM7
      generalize w7.alloc _ = w8 at *
      generalize w7.heap.size = g7 at *
      go_upto_region 13 with (first
        | (go_at_call 14; (with_reducible refine (HN.out.2.2.2.1 _ HM8.out.1.ro.rd).mono ?_); (rintro e w9 ⟨v9, rfl, O9, B9⟩; obtain ⟨A9, c9, hv9, R9, hc9, hn9⟩ := O9.form; obtain ⟨m9, hm9⟩ : ∃ m, m = T.length := ⟨_, rfl⟩; rw [← hm9] at hv9 hc9; subst hv9; have HP9 := Lib.hid (And.intro R9 (And.intro hm9 (And.intro hc9 (And.intro hn9 (And.intro (HM8.out.1.step B9) ((B9.block g7 (Array.getElem?_eq_some_iff.1 HM8.out.2).1).trans HM8.out.2)))))); clear O9 B9 R9 hm9 hc9 hn9))
        | (go_at_call 16; (with_reducible refine (HN.out.2.2.1 _ A9 m9 c9 HP9.out.2.1 HP9.out.1 HP9.out.2.2.1 HP9.out.2.2.2.1).mono ?_); (rintro e w10 ⟨x10, y10, n10, A10, c10, rfl, hy10, B10⟩; have HM10 := Lib.hid (And.intro hy10 (And.intro (HP9.out.2.2.2.2.1.step B10) ((B10.block g7 (Array.getElem?_eq_some_iff.1 HP9.out.2.2.2.2.2).1).trans HP9.out.2.2.2.2.2))); clear hy10 B10)))
      have HM11 := Lib.hid (And.intro (HM10.out.2.1.step ((Below.refl _ _).alloc (Nat.le_refl _) (.cells #[.int .i64 x10, .slice A10 n10 c10] 34))) ((heap_alloc_old w10 (.cells #[.int .i64 x10, .slice A10 n10 c10] 34) (Array.getElem?_eq_some_iff.1 HM10.out.2.2).1).trans HM10.out.2.2))
      generalize w10.alloc _ = w11 at *
      obtain ⟨⟨g0, g1⟩, -⟩ := row2b HM11.out.2
      have hbel := HB1.out.trans (HM11.out.1.bl.mono HB1.out.size)
      have HBE := Lib.hid hbel
      clear hbel
      have hkp := HN.out.2.2.2.2
      have hy10 := HM10.out.1
      clear HN HM8 HM10 HM11 HP9 HP6 HM
      by_cases h300 : 300 < j
      · have hq : q = 300 := by omega
        have hy : y10 = 6 := by rw [hy10, if_pos h300]
        have h301 : ¬ (j : Int) ≤ 300 := by omega
        subst hq hy
        clear hkp hy10
        go_wp2
        go_ret
        exact ⟨rfl, HBE.out⟩
      · have hq : q = j := by omega
        have hy : y10 = 0 := by rw [hy10, if_neg h300]
        have h301 : (j : Int) ≤ 300 := by omega
        subst hq hy
        clear hkp hy10
        go_wp2
        go_ret
        exact ⟨rfl, HBE.out⟩

set_option maxRecDepth 100000 in
theorem lifted (os : Os) (started : os.Started) (H : Type) (enc : TypeId × Value → H) :
    ReturnsInHanded {} Try.checked os 7 .any (Rows.messageMostSpec.pre6 enc Try.prog Try.f7 Rows.messageMostRow.domain false) (Rows.messageMostSpec.post enc Try.prog Try.f7 false true false false) := by
  refine returnsInHanded_of_change (C := Try.checked) own started (by kernel_rfl) Try.func7
    (ChangeSpec.witness6 (enc := enc) (C := Try.checked) false ⟨#[], #[.int .u16 0], []⟩ 8 (by kernel_rfl) (by kernel_rfl) (by kernel_rfl) (by kernel_rfl)) ?_
  intro W base args ds gs before hval0 hW hcnd _
  have hval : ∀ (j : Nat) t v, Try.f7.params[j]? = some t → args[j]? = some v → Value.okWide Try.prog W .any base t v := hval0
  have hW' := hW
  obtain ⟨p, q, hA0, hV, rfl, hfz, hnd⟩ := hW
  have hA : DataW.TrodAll enc Try.prog W 0 (fun _ => true) true Try.f7.params.toList args.toList ds p := hA0
  rw [Try.params7] at hA hval
  obtain ⟨v0, vs0, d0, ds0, p0, q0, hargs, rfl, rfl, h0, r0⟩ := trodAll_cons hA
  obtain ⟨rfl, rfl, rfl⟩ := trodAll_nil r0
  obtain rfl : args = #[v0] := by cases args; simp_all
  obtain ⟨rfl, rfl⟩ := trodVars_none hV
  obtain ⟨a0, rfl, rfl, rfl, w0⟩ := open_int Try.underlying26 (hval 0 26 v0 rfl rfl) h0
  clear hA0 hval0
  refine (walk a0 W w0).mono fun e W' ⟨he, bel⟩ => ?_
  subst he
  exact ⟨_, rfl, _, _, _, [], _, [], hW', trodAll_mk1 (shut_bool Try.underlying4 _), (trodAll_cons_mk (shut_int Try.underlying26 w0) trodAll_mk0), rfl, bel.frame _, fun h => by cases h⟩

theorem over : Rows.messageMostRow.holds Try.pinned (OpenSpec.ofChange Rows.messageMostSpec) :=
  OpenClaim.holds_of_wide 7 Try.f7 rfl rfl rfl rfl rfl rfl rfl ⟨rfl, rfl, rfl, rfl, rfl⟩ rfl rfl rfl rfl rfl (by kernel_rfl) Try.func7 (by kernel_rfl)
    (of_decide_eq_true (by kernel_rfl)) (by unfold Func.isWrapper; first | (rw [if_pos (by decide +kernel)]; kernel_rfl) | (rw [if_neg (by decide +kernel)]; exact ⟨rfl, rfl⟩))
    (fun os started H enc _ => lifted os started H enc)

theorem proved : Rows.MessageMostSaid := over
#print axioms proved
end Go.Proofs.Ytecfblkagbdjlaa.messageMost
